"""Works, ties and threads in many forms, the same ones each time, for tests that go over many of them."""

import random

FAR = 10 ** 9
FACES = ("front", "back")
MIDDLE = (0, 0)
EAST = ((0, 0), (1, 0))
NORTH = ((0, 0), (0, 1))
SLANT = ((0, 1), (1, 0))
WEST = ((-1, 0), (0, 0))
SOUTH = ((0, -1), (0, 0))
AFAR = ((-FAR, FAR), (-FAR + 9, FAR - 9))
TOP = ((0, 1), (1, 1))
RIGHT = ((1, 0), (1, 1))
SQUARE = [NORTH, EAST, TOP, RIGHT]


def ends(one, other):
    return (one, other) if one < other else (other, one)


def way(*holes):
    """The lines from each of these holes to the next."""
    return list(zip(holes, holes[1:]))


def moved(lines, east, north=0):
    return [tuple((x + east, y + north) for x, y in line) for line in lines]


def to_and_fro(many):
    """So many holes, by turns the one and the other."""
    return tuple((at % 2, 0) for at in range(many))


def ahead(many):
    """So many unlike holes, each nine to the east and one to the north or to the south of the one ahead."""
    return tuple((at * 9 - 1000, at % 2) for at in range(many))


def made(front, back):
    """The work of these lines, in any order and written from either end."""
    return tuple(sorted({ends(*line) for line in lines}) for lines in (front, back))


def stitches_asked(work):
    """The stitches that a work asks for, as (face, line)."""
    return [(face, line) for face, lines in zip(FACES, work) for line in lines]


def sewn(thread):
    """The stitches of a thread, reckoned anew."""
    face, holes = thread
    faces = (FACES if face == "front" else FACES[::-1]) * len(holes)
    return [(own, ends(*two)) for own, two in zip(faces, zip(holes, holes[1:]))]


def ends_by_hole(threads):
    """How many ends of these threads lie at each hole."""
    count = {}
    for face, holes in threads:
        for hole in (holes[0], holes[-1]):
            count[hole] = count.get(hole, 0) + 1
    return count


def heaps(work, ties):
    """The stitches of a work in heaps, sorted: those that are tied, in however many steps, lie in one."""
    heap_by = {stitch: [stitch] for stitch in stitches_asked(work)}
    for hole, one, other in ties:
        first, second = heap_by["front", one], heap_by["back", other]
        if first is not second:
            first += second
            heap_by.update((stitch, first) for stitch in second)
    return sorted({tuple(sorted(heap)) for heap in heap_by.values()})


def some_line(dice, wide, reach):
    while True:
        one = (dice.randrange(wide), dice.randrange(wide))
        other = (one[0] + dice.randint(-reach, reach), one[1] + dice.randint(-reach, reach))
        if one != other:
            return ends(one, other)


def some_works(many):
    """So many works: with few lines and with many, on a narrow cloth and on a wide one."""
    dice = random.Random(15)
    works = []
    for at in range(many):
        wide = dice.choice((2, 3, 6, 12, 40))
        reach = dice.choice((1, 1, 2, 9))
        counts = [dice.choice((0, 1, 2, 4, 9, 20, 60, 120)) for face in range(2)]
        front, back = ([some_line(dice, wide, reach) for line in range(count)] for count in counts)
        # Lines that both faces have: some of the front's on the back, too.
        back += dice.sample(front, min(len(front), dice.choice((0, 1, 5, 120)), 120 - len(back)))
        works.append(made(front, back))
    return works


def some_threads(many):
    """So many threads: with few holes and with many, and from rim to rim of the cloth."""
    dice = random.Random(17)
    threads = []
    for at in range(many):
        holes = [dice.choice(((0, 0), (3, -4), (FAR, FAR), (-FAR, FAR), (FAR, -FAR), (-FAR, -FAR)))]
        count = dice.choice((2, 3, 4, 5, 10, 37, 399, 400))
        while len(holes) < count:
            x, y = (each + dice.randint(-9, 9) for each in holes[-1])
            if (x, y) != holes[-1] and max(abs(x), abs(y)) <= FAR:
                holes.append((x, y))
        threads.append((dice.choice(("front", "back")), tuple(holes)))
    return threads


def some_ties(dice, work, share):
    """Ties of a work in any order: at each hole each front line, by chance, with some back line."""
    ties = []
    for hole in sorted({hole for face, line in stitches_asked(work) for hole in line}):
        front, back = ([line for line in lines if hole in line] for lines in work)
        dice.shuffle(front)
        dice.shuffle(back)
        ties += [(hole, one, other) for one, other in zip(front, back) if dice.random() < share]
    dice.shuffle(ties)
    return ties


def some_tied(many):
    """So many works with ties: with all that can be tied, with some of it, with little."""
    dice = random.Random(21)
    return [(work, some_ties(dice, work, dice.choice((1, 1, 0.9, 0.5, 0.1)))) for work in some_works(many)]
