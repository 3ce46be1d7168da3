"""Works and threads in many forms, the same ones each time, for tests that go over many of them."""

import random

FAR = 10 ** 9


def ends(one, other):
    return (one, other) if one < other else (other, one)


def made(front, back):
    """The work of these lines, in any order and written from either end."""
    return tuple(sorted({ends(*line) for line in lines}) for lines in (front, back))


def some_line(dice, wide, reach):
    while True:
        one = (dice.randrange(wide), dice.randrange(wide))
        other = (one[0] + dice.randint(-reach, reach), one[1] + dice.randint(-reach, reach))
        if one != other:
            return ends(one, other)


def some_works(many):
    """So many works: with few lines and with many, on a narrow cloth and on a wide one."""
    dice = random.Random(15)
    works = []
    for at in range(many):
        wide = dice.choice((2, 3, 6, 12, 40))
        reach = dice.choice((1, 1, 2, 9))
        counts = [dice.choice((0, 1, 2, 4, 9, 20, 60, 120)) for face in range(2)]
        front, back = ([some_line(dice, wide, reach) for line in range(count)] for count in counts)
        # Lines that both faces have: some of the front's on the back, too.
        back += dice.sample(front, min(len(front), dice.choice((0, 1, 5, 120)), 120 - len(back)))
        works.append(made(front, back))
    return works


def some_threads(many):
    """So many threads: with few holes and with many, and from rim to rim of the cloth."""
    dice = random.Random(17)
    threads = []
    for at in range(many):
        holes = [dice.choice(((0, 0), (3, -4), (FAR, FAR), (-FAR, FAR), (FAR, -FAR), (-FAR, -FAR)))]
        count = dice.choice((2, 3, 4, 5, 10, 37, 399, 400))
        while len(holes) < count:
            x, y = (each + dice.randint(-9, 9) for each in holes[-1])
            if (x, y) != holes[-1] and max(abs(x), abs(y)) <= FAR:
                holes.append((x, y))
        threads.append((dice.choice(("front", "back")), tuple(holes)))
    return threads
