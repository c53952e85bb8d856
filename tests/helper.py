"""What several tests need: plans made by number, and another way to run them."""

import random
from itertools import islice

NAMES = ("a", "b", "cc", "wheel")


def plan_of(rows, m=10, names=("a", "b", "c"), many=3, mark="a"):
    return (m, names, many, tuple(rows), mark)


def within(depth, rows=()):
    """Rows within so many ifs and agains."""
    for number in range(depth):
        if number % 3 == 0:
            rows = (("if", "a", tuple(rows), ()),)
        elif number % 3 == 1:
            rows = (("again", "b", tuple(rows)),)
        else:
            rows = (("if", "c", (), tuple(rows)),)
    return tuple(rows)


def made_plan(seed):
    """A plan and a stand of it; the same for the same seed."""
    chance = random.Random(seed)
    m = chance.choice((2, 3, 5, 10, 997))
    many = chance.choice((0, 1, 4))
    names = NAMES[: chance.randint(1, 4)]
    rows = made_rows(chance, m, names, many, 0, [chance.randint(0, 40)])
    numbers = tuple(chance.randrange(m) for _ in names)
    pieces = tuple(chance.randrange(m) for _ in range(many))
    return (m, names, many, rows, chance.choice(names)), (numbers, pieces)


def made_rows(chance, m, names, many, depth, left):
    rows = []
    for _ in range(chance.randint(0 if depth else 4, 7)):
        if left[0] == 0:
            break
        left[0] -= 1
        rows.append(made_row(chance, m, names, many, depth, left))
    return tuple(rows)


def made_row(chance, m, names, many, depth, left):
    def name():
        return chance.choice(names)

    def inner():
        return made_rows(chance, m, names, many, depth + 1, left)

    words = ["put", "sum", "by", "less", "same"]
    if many:
        words += ["take", "pick"]
    if depth < 4:
        words += ["if", "if", "again"]
    word = chance.choice(words)
    if word == "put":
        return (word, name(), chance.randrange(m))
    if word == "take":
        return (word, name(), chance.randrange(many))
    if word == "pick":
        return (word, name(), name())
    if word == "if":
        return (word, name(), inner(), inner())
    if word == "again":
        return again_row(chance, names, name(), inner(), left)
    return (word, name(), name(), name())


def again_row(chance, names, x, rows, left):
    """An again; most have a last row that makes x run out, sooner or later."""
    other = chance.choice(names)
    last = chance.choice((("put", x, 0), ("sum", x, x, other), ("by", x, x, other), ("less", x, x, other), None))
    if last is None or left[0] == 0:
        return ("again", x, rows)
    left[0] -= 1
    return ("again", x, rows + (last,))


def steps_of(m, rows, at, numbers, pieces):
    """The steps of rows one by one, as points 6 and 7 tell them."""
    for j, (word, x, *rest) in enumerate(rows):
        place = at + (j,)
        if word == "if":
            truth = int(numbers[x] != 0)
            yield place, truth
            yield from steps_of(m, rest[1 - truth], place + (truth,), numbers, pieces)
            continue
        if word == "again":
            turn = 0
            while numbers[x]:
                yield place + (turn,), 1
                yield from steps_of(m, rest[0], place + (turn,), numbers, pieces)
                turn += 1
            yield place + (turn,), 0
            continue
        got = [numbers.get(part) for part in rest]
        numbers[x] = {
            "put": lambda: rest[0],
            "take": lambda: pieces[rest[0]],
            "pick": lambda: pieces[got[0] % len(pieces)],
            "sum": lambda: (got[0] + got[1]) % m,
            "by": lambda: (got[0] * got[1]) % m,
            "less": lambda: int(got[0] < got[1]),
            "same": lambda: int(got[0] == got[1]),
        }[word]()
        yield place, numbers[x]


def run_otherwise(plan, stand, most):
    """What run must tell, found in another way."""
    m, names, _, rows, _ = plan
    numbers = dict(zip(names, stand[0]))
    coming = steps_of(m, rows, (), numbers, stand[1])
    steps = list(islice(coming, most))
    if next(coming, None) is not None:
        return steps, None
    return steps, tuple(numbers[name] for name in names)
