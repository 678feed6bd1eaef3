"""Slow readings of points 10 to 13, word for word, to hold the program against.

A front is a tuple (loops, triples); putting a letter tells a new one.
"""

import random

import shapes

BEGIN = ([[0, 1]], [])
PLAIN = [("C",), ("R",), ("L",), ("E",)]


def wanted(loops):
    return [(loop[k], loop[(k + 1) % len(loop)]) for loop in loops for k in range(len(loop))]


def come(front):
    return max([1] + [x for triple in front[1] for x in triple]) + 1


def put_c(loops, front):
    x = come(front)
    loops[-1].insert(1, x)
    return x


def put_r(loops):
    if len(loops[-1]) <= 3:
        return None
    loops[-1].pop(1)
    return loops[-1][1]


def put_l(loops):
    if len(loops[-1]) <= 3:
        return None
    x = loops[-1].pop()
    loops[-1][0] = x
    return x


def put_e(loops):
    return loops.pop()[2] if len(loops[-1]) == 3 else None


def put_s(loops, j, k):
    if j < 0 or j >= len(loops) or k < 0 or k >= len(loops[-1 - j]):
        return None
    loop = loops[-1]
    a, b = loop[:2]
    x = loops[-1 - j][k]
    if j > 0:
        other = loops.pop(-1 - j)
        loops[-1] = [a, x] + other[k + 1:] + other[:k] + [x, b] + loop[2:]
        return x
    if k < 3 or k == len(loop) - 1:
        return None
    loops[-1] = [a, x] + loop[k + 1:]
    loops.append([x, b] + loop[2:k])
    return x


def put(front, letter):
    """(triple, front behind it), or None where the letter can't be put; of a letter's form alone."""
    if not front[0]:
        return None
    loops = [list(loop) for loop in front[0]]
    a, b = loops[-1][:2]
    sign = letter[0]
    if sign == "S":
        x = put_s(loops, letter[1], letter[2])
    elif sign == "C":
        x = put_c(loops, front)
    else:
        x = {"R": put_r, "L": put_l, "E": put_e}[sign](loops)
    if x is None or x == a or x == b:
        return None
    stands = shapes.all_sides(front[1]) + wanted(front[0])
    if sign not in "RE" and ((b, x) in stands or (x, b) in stands):
        return None
    if sign not in "LE" and ((x, a) in stands or (a, x) in stands):
        return None
    return ((a, b, x), (loops, front[1] + [(a, b, x)]))


def candidates(front):
    """All letters that might be put, and some beyond both ends."""
    told = list(PLAIN)
    loops = front[0]
    for j in range(-1, len(loops) + 2):
        length = len(loops[-1 - j]) if 0 <= j < len(loops) else 2
        told += [("S", j, k) for k in range(-2, length + 2)]
    return told


def letters_for(front):
    return [letter for letter in candidates(front) if put(front, letter) is not None]


def put_all(letters):
    """The front behind the letters, or the number of the first that can't be put."""
    front = BEGIN
    for at, letter in enumerate(letters):
        told = put(front, letter)
        if told is None:
            return at
        front = told[1]
    return front


def chosen_row(seed, many):
    """At most that many letters that can be put one behind another, with partings and joins where they can be."""
    chance = random.Random(seed)
    front = BEGIN
    row = []
    while front[0] and len(row) < many:
        can = letters_for(front)
        if len(front[0]) == 1 and len(row) < many // 2:
            # Else most rows would be at their end soon.
            can = [letter for letter in can if letter != ("E",)]
        joins = [letter for letter in can if letter[0] == "S" and letter[1] > 0]
        parts = [letter for letter in can if letter[0] == "S" and letter[1] == 0]
        kind = chance.choice([joins or parts, parts, can, can, [("C",)], [each for each in can if each in PLAIN]])
        letter = chance.choice(kind or can)
        row.append(letter)
        front = put(front, letter)[1]
    return row
