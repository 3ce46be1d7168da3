"""Drawings in all their forms, the same ones each time, for tests that go over many of them."""

import random

WAYS = ("n", "ne", "e", "se", "s", "sw", "w", "nw")
FAR = (-(10 ** 9), -(10 ** 9) + 4, 10 ** 9 - 4, 10 ** 9)


def far_line(dice):
    x = dice.choice((-9, -4, -2, 2, 3, 7, 9))
    y = dice.randint(-9, 9)
    return f"line {x} {y}" if dice.random() < 0.5 else f"line {y} {x}"


def by(dice):
    much = [dice.choice(FAR) if dice.random() < 0.2 else dice.randint(-5, 5) for place in range(2)]
    return f"by {much[0]} {much[1]}"


def bracket(dice, depth):
    inner = row(dice, depth + 1)
    return dice.choice((
        f"( {inner} )",
        f"{dice.choice((1, 2, 3, 4, 20, 60))} times ( {inner} )",
        f"turn {dice.randrange(8)} ( {inner} )",
    ))


def stroke(dice, depth):
    luck = dice.random()
    if luck < 0.4 and depth < 8:
        return bracket(dice, depth)
    if luck < 0.7:
        return dice.choice(WAYS)
    if luck < 0.8:
        return far_line(dice)
    if luck < 0.9:
        return by(dice)
    return "ink " + dice.choice(("red", "blue", "n", "times"))


def row(dice, depth=0):
    return " ".join(stroke(dice, depth) for place in range(dice.randint(1, 4)))


def some_drawings(many):
    """So many texts of drawings, in which no `line` leads to a next hole."""
    dice = random.Random(13)
    texts = []
    while len(texts) < many:
        text = row(dice)
        if len(text) <= 2000:
            texts.append(text)
    return texts
