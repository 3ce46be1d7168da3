"""A cloth: threads worked on it and pulled out again, and the pictures that it shows."""

from bothfaces.errors import NoName, NoThread, Taken
from bothfaces.lines import is_whole
from bothfaces.threads import is_thread, stitches


class Cloth:
    def __init__(self):
        self.next_number = 0
        self.worked = {}
        self.laid = {}

    def work(self, thread, colour):
        if not is_thread(thread):
            raise NoThread("this is no thread")
        # Nothing is laid before all stitches are looked at: what is refused changes nothing.
        own = {}
        for stitch in stitches(thread):
            if stitch in self.laid or stitch in own:
                raise Taken(stitch[0], stitch[1])
            own[stitch] = colour
        self.laid.update(own)
        number = self.next_number
        self.next_number = number + 1
        self.worked[number] = (colour, thread)
        return number

    def pull(self, number):
        # A dict takes True for 1, and fails of what can be no key: only numbers are looked up in it.
        if not is_whole(number) or number not in self.worked:
            raise NoName("no thread is there by this number")
        pulled = self.worked.pop(number)
        for stitch in stitches(pulled[1]):
            self.laid.pop(stitch)

    def threads(self):
        return [(number, self.worked[number][0], self.worked[number][1]) for number in sorted(self.worked)]

    def shows(self, face):
        return sorted([(stitch[1], colour) for stitch, colour in self.laid.items() if stitch[0] == face])
