"""Slow readings of points 10 to 13, word for word, to hold the program against.

A front is a tuple (loops, triples); putting a letter tells a new one.
"""

import random

import shapes

BEGIN = ([[0, 1]], [])
PLAIN = [("C",), ("R",), ("L",), ("E",)]


def wanted(loops):
    return [(loop[k], loop[(k + 1) % len(loop)]) for loop in loops for k in range(len(loop))]


def come(front):
    return max([1] + [x for triple in front[1] for x in triple]) + 1


def put_c(loops, front):
    x = come(front)
    loops[-1].insert(1, x)
    return x


def put_r(loops):
    if len(loops[-1]) <= 3:
        return None
    loops[-1].pop(1)
    return loops[-1][1]


def put_l(loops):
    if len(loops[-1]) <= 3:
        return None
    x = loops[-1].pop()
    loops[-1][0] = x
    return x


def put_e(loops):
    return loops.pop()[2] if len(loops[-1]) == 3 else None


def put_s(loops, j, k):
    if j < 0 or j >= len(loops) or k < 0 or k >= len(loops[-1 - j]):
        return None
    loop = loops[-1]
    a, b = loop[:2]
    x = loops[-1 - j][k]
    if j > 0:
        other = loops.pop(-1 - j)
        loops[-1] = [a, x] + other[k + 1:] + other[:k] + [x, b] + loop[2:]
        return x
    if k < 3 or k == len(loop) - 1:
        return None
    loops[-1] = [a, x] + loop[k + 1:]
    loops.append([x, b] + loop[2:k])
    return x


def put(front, letter):
    """(triple, front behind it), or None where the letter can't be put; of a letter's form alone."""
    if not front[0]:
        return None
    loops = [list(loop) for loop in front[0]]
    a, b = loops[-1][:2]
    sign = letter[0]
    if sign == "S":
        x = put_s(loops, letter[1], letter[2])
    elif sign == "C":
        x = put_c(loops, front)
    else:
        x = {"R": put_r, "L": put_l, "E": put_e}[sign](loops)
    if x is None or x == a or x == b:
        return None
    stands = shapes.all_sides(front[1]) + wanted(front[0])
    if sign not in "RE" and ((b, x) in stands or (x, b) in stands):
        return None
    if sign not in "LE" and ((x, a) in stands or (a, x) in stands):
        return None
    return ((a, b, x), (loops, front[1] + [(a, b, x)]))


def candidates(front):
    """All letters that might be put, and some beyond both ends."""
    told = list(PLAIN)
    loops = front[0]
    for j in range(-1, len(loops) + 2):
        length = len(loops[-1 - j]) if 0 <= j < len(loops) else 2
        told += [("S", j, k) for k in range(-2, length + 2)]
    return told


def letters_for(front):
    return [letter for letter in candidates(front) if put(front, letter) is not None]


def put_all(letters):
    """The front behind the letters, or the number of the first that can't be put."""
    front = BEGIN
    for at, letter in enumerate(letters):
        told = put(front, letter)
        if told is None:
            return at
        front = told[1]
    return front


def all_words(longest):
    """All words of so many letters at most, and all rows of so many that begin one."""
    words = []
    fronts = [([], BEGIN)]
    for length in range(longest):
        behind = []
        for row, front in fronts:
            behind += [(row + [letter], put(front, letter)[1]) for letter in letters_for(front)]
        words += [row for row, front in behind if not front[0]]
        fronts = [(row, front) for row, front in behind if front[0]]
    return words, [row for row, front in fronts]


def chosen_row(seed, many):
    """At most that many letters that can be put one behind another, with partings and joins where they can be."""
    chance = random.Random(seed)
    front = BEGIN
    row = []
    while front[0] and len(row) < many:
        can = letters_for(front)
        if len(front[0]) == 1 and len(row) < many // 2:
            # Else most rows would be at their end soon.
            can = [letter for letter in can if letter != ("E",)]
        joins = [letter for letter in can if letter[0] == "S" and letter[1] > 0]
        parts = [letter for letter in can if letter[0] == "S" and letter[1] == 0]
        kind = chance.choice([joins or parts, parts, can, can, [("C",)], [each for each in can if each in PLAIN]])
        letter = chance.choice(kind or can)
        row.append(letter)
        front = put(front, letter)[1]
    return row


def slow_end(letters):
    """Letters that end the row: each loop gets a collar of new corners, then a new corner amid it."""
    loops = put_all(letters)[0]
    told = []
    for loop in loops[::-1]:
        if len(loop) <= 3:
            told += [("C",), ("E",)][len(loop) - 2:]
        else:
            told += [("C",)] + [("C",), ("L",)] * (len(loop) - 1) + [("C",)] + [("L",)] * (len(loop) - 1) + [("E",)]
    return told


def chosen_closed(seed, many):
    """The triples of a word that begins with at most so many chosen letters."""
    row = chosen_row(seed, many)
    return put_all(row + slow_end(row))[1]


def letter_off(front, x, thirds, names, a, b):
    """The letter of the triangle (a, b, x), names and numbers as point 11 has them; x has come."""
    number = {name: at for at, name in enumerate(names)}
    open_sides = wanted(front[0])
    if (b, number[x]) in open_sides and (number[x], a) in open_sides:
        return ("E",)
    if (b, number[x]) in open_sides:
        return ("R",)
    if (number[x], a) in open_sides:
        return ("L",)
    q = names[a]
    while (number[x], number.get(q)) not in open_sides:
        q = thirds[(q, x)]
    for j, loop in enumerate(front[0][::-1]):
        for k, here in enumerate(loop):
            if here == number[x] and loop[(k + 1) % len(loop)] == number[q]:
                return ("S", j, k)
    raise AssertionError("no place")


def wound_off(triples, side):
    """The tuple that point 11 tells of a skin's triples and one of its sides."""
    thirds = {}
    for triple in shapes.closed(triples):
        for a, b, c in (triple, shapes.turned(triple, 1), shapes.turned(triple, 2)):
            thirds[(a, b)] = c
    front = BEGIN
    word = []
    names = list(side)
    while front[0]:
        a, b = front[0][-1][:2]
        x = thirds[(names[a], names[b])]
        if x in names:
            word.append(letter_off(front, x, thirds, names, a, b))
        else:
            word.append(("C",))
            names.append(x)
        front = put(front, word[-1])[1]
    last = max(shapes.corners_of(triples))
    caps = [at for at, name in enumerate(names) if name > last]
    return (word, caps, [None if name > last else name for name in names])


def chosen_sides(triples, some=None):
    """The sides of the skin; of a long one just some of them."""
    sides = shapes.all_sides(triples)
    if some is None or len(sides) <= some:
        return sides
    return random.Random(len(sides)).sample(sides, some)


def rims_as_sides(triples):
    """The sides of each rim; found without the program."""
    known = set(shapes.all_sides(triples))
    onward = {a: b for a, b in known if (b, a) not in known}
    told = []
    while onward:
        p = min(onward)
        rim = set()
        while p in onward:
            rim.add((p, onward[p]))
            p = onward.pop(p)
        told.append(rim)
    return told


def wound_on(word, caps):
    """The triangles that point 13 tells of a word and a list of whole numbers, or None of no caps."""
    triples = put_all(word)[1]
    corners = shapes.corners_of(triples)
    if caps != sorted(set(caps)) or any(cap < 3 or cap not in corners for cap in caps):
        return None
    left = shapes.without_corners(triples, caps)
    if shapes.slow_fault(left) is not None:
        return None
    asked = rims_as_sides(left)
    for cap in caps:
        about = [shapes.begun_at(triple, cap) for triple in triples if cap in triple]
        turned_about = {(q, p) for h, p, q in about}
        if turned_about not in asked:
            return None
        asked.remove(turned_about)
    return None if asked else shapes.slow_triangles(left)
