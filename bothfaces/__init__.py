"""Line work in thread, seen from the front and from the back."""
