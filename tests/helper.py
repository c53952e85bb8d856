"""What several tests need: plans made by number, and another way to run them."""

import random
from collections import Counter
from itertools import islice

NAMES = ("a", "b", "cc", "wheel")


def plan_of(rows, m=10, names=("a", "b", "c"), many=3, mark="a"):
    return (m, names, many, tuple(rows), mark)


def within(depth, rows=()):
    """Rows within so many ifs and agains."""
    for number in range(depth):
        if number % 3 == 0:
            rows = (("if", "a", tuple(rows), ()),)
        elif number % 3 == 1:
            rows = (("again", "b", tuple(rows)),)
        else:
            rows = (("if", "c", (), tuple(rows)),)
    return tuple(rows)


def made_plan(seed):
    """A plan and a stand of it; the same for the same seed."""
    chance = random.Random(seed)
    m = chance.choice((2, 3, 5, 10, 997))
    many = chance.choice((0, 1, 4))
    names = NAMES[: chance.randint(1, 4)]
    rows = made_rows(chance, m, names, many, 0, [chance.randint(0, 40)])
    numbers = tuple(chance.randrange(m) for _ in names)
    pieces = tuple(chance.randrange(m) for _ in range(many))
    return (m, names, many, rows, chance.choice(names)), (numbers, pieces)


def made_rows(chance, m, names, many, depth, left):
    rows = []
    for _ in range(chance.randint(0 if depth else 4, 7)):
        if left[0] == 0:
            break
        left[0] -= 1
        rows.append(made_row(chance, m, names, many, depth, left))
    return tuple(rows)


def made_row(chance, m, names, many, depth, left):
    def name():
        return chance.choice(names)

    def inner():
        return made_rows(chance, m, names, many, depth + 1, left)

    words = ["put", "sum", "by", "less", "same"]
    if many:
        words += ["take", "pick"]
    if depth < 4:
        words += ["if", "if", "again"]
    word = chance.choice(words)
    if word == "put":
        return (word, name(), chance.randrange(m))
    if word == "take":
        return (word, name(), chance.randrange(many))
    if word == "pick":
        return (word, name(), name())
    if word == "if":
        return (word, name(), inner(), inner())
    if word == "again":
        return again_row(chance, names, name(), inner(), left)
    return (word, name(), name(), name())


def again_row(chance, names, x, rows, left):
    """An again; most have a last row that makes x run out, sooner or later."""
    other = chance.choice(names)
    last = chance.choice((("put", x, 0), ("sum", x, x, other), ("by", x, x, other), ("less", x, x, other), None))
    if last is None or left[0] == 0:
        return ("again", x, rows)
    left[0] -= 1
    return ("again", x, rows + (last,))


def steps_of(m, rows, at, numbers, pieces):
    """The steps of rows one by one, as points 6 and 7 tell them."""
    for j, (word, x, *rest) in enumerate(rows):
        place = at + (j,)
        if word == "if":
            truth = int(numbers[x] != 0)
            yield place, truth
            yield from steps_of(m, rest[1 - truth], place + (truth,), numbers, pieces)
            continue
        if word == "again":
            turn = 0
            while numbers[x]:
                yield place + (turn,), 1
                yield from steps_of(m, rest[0], place + (turn,), numbers, pieces)
                turn += 1
            yield place + (turn,), 0
            continue
        got = [numbers.get(part) for part in rest]
        numbers[x] = {
            "put": lambda: rest[0],
            "take": lambda: pieces[rest[0]],
            "pick": lambda: pieces[got[0] % len(pieces)],
            "sum": lambda: (got[0] + got[1]) % m,
            "by": lambda: (got[0] * got[1]) % m,
            "less": lambda: int(got[0] < got[1]),
            "same": lambda: int(got[0] == got[1]),
        }[word]()
        yield place, numbers[x]


def run_otherwise(plan, stand, most):
    """What run must tell, found in another way."""
    m, names, _, rows, _ = plan
    numbers = dict(zip(names, stand[0]))
    coming = steps_of(m, rows, (), numbers, stand[1])
    steps = list(islice(coming, most))
    if next(coming, None) is not None:
        return steps, None
    return steps, tuple(numbers[name] for name in names)


def names_set(rows):
    """The names that rows set, a set."""
    found = set()
    for word, x, *rest in rows:
        if word == "if":
            found |= names_set(rest[0]) | names_set(rest[1])
        elif word == "again":
            found |= names_set(rest[0])
        else:
            found.add(x)
    return found


class Sources:
    """What each step of a run comes from and reads, found in another way: one set of places and things a step."""

    def __init__(self, plan, stand, most):
        self.plan = plan
        self.numbers = dict(zip(plan[1], stand[0]))
        self.pieces = stand[1]
        self.origins = {name: {name} for name in plan[1]}
        coming = self.go(plan[3], (), set())
        self.of = {}
        self.steps = []
        for place, number, sources in islice(coming, most):
            self.of[place] = sources
            self.steps.append((place, number))
        self.dry = next(coming, None) is not None
        if not self.dry:
            self.of[None] = self.origins[plan[4]]

    def go(self, rows, at, looks):
        for j, row in enumerate(rows):
            place = at + (j,)
            if row[0] == "if":
                truth = int(self.numbers[row[1]] != 0)
                yield place, truth, self.origins[row[1]] | looks
                yield from self.go(row[3 - truth], place + (truth,), {place})
                self.leave(row, place)
            elif row[0] == "again":
                yield from self.go_again(row, place, looks)
            else:
                yield self.set(row, place, looks)

    def go_again(self, row, place, looks):
        ahead = set()
        turn = 0
        while True:
            look = place + (turn,)
            truth = int(self.numbers[row[1]] != 0)
            yield look, truth, self.origins[row[1]] | looks | ahead
            if not truth:
                break
            yield from self.go(row[2], look, {look})
            ahead = {look}
            turn += 1
        self.leave(row, look)

    def leave(self, row, look):
        for name in names_set([row]):
            self.origins[name] = self.origins[name] | {look}

    def set(self, row, place, looks):
        word, x, *rest = row
        got = [self.numbers.get(part) for part in rest]
        sources = set(looks).union(*(self.origins[part] for part in rest if isinstance(part, str)))
        if word in ("take", "pick"):
            piece = rest[0] if word == "take" else got[0] % self.plan[2]
            sources.add(piece)
        number = next(steps_of(self.plan[0], [row], (), dict(self.numbers), self.pieces))[1]
        self.numbers[x] = number
        self.origins[x] = {place}
        return place, number, sources

    def froms(self, place):
        return self.told(self.of[place])

    def told(self, sources):
        places = sorted(source for source in sources if isinstance(source, tuple))
        names = [name for name in self.plan[1] if name in sources]
        return places, names + sorted(source for source in sources if isinstance(source, int))

    def trail(self, place):
        found = set() if place is None else {place}
        sources = set(self.of[place])
        while sources - found:
            found |= sources
            for source in list(found):
                if isinstance(source, tuple):
                    sources |= self.of[source]
        return self.told(found)


def other_stand(seed, plan, stand, likely=0.5):
    """Another stand of the plan, with some things unlike; the same for the same seed."""
    chance = random.Random(seed)

    def other(number):
        return chance.randrange(plan[0]) if chance.random() < likely else number

    return tuple(map(other, stand[0])), tuple(map(other, stand[1]))


def rich_plan(seed):
    """A plan and a stand of it, with more names and pieces; the same for the same seed."""
    chance = random.Random(seed)
    m = chance.choice((2, 3, 5, 10))
    many = chance.choice((0, 2, 5))
    names = ("b", "a", "dd", "c", "mark")[: chance.randint(2, 5)]
    rows = made_rows(chance, m, names, many, 0, [chance.randint(3, 30)])
    numbers = tuple(chance.randrange(m) for _ in names)
    pieces = tuple(chance.randrange(m) for _ in range(many))
    return (m, names, many, rows, chance.choice(names)), (numbers, pieces)


def made_pairs(seeds, most):
    """Plans with two stands each whose runs aren't dry, and have unlike marks where that was soon found."""
    for seed in seeds:
        plan, one = rich_plan(seed)
        found = None
        if run_otherwise(plan, one, most)[1] is None:
            continue
        for number in range(12):
            other = other_stand(100 * seed + number, plan, one, 0.7)
            if run_otherwise(plan, other, most)[1] is not None:
                found = other
                if marked_otherwise(plan, one, most) != marked_otherwise(plan, other, most):
                    break
        if found is not None:
            yield plan, one, found


def marked_otherwise(plan, stand, most):
    """What mark must tell, found in another way."""
    end = run_otherwise(plan, stand, most)[1]
    return None if end is None else end[plan[1].index(plan[4])]


def made_cases(seeds, most):
    """Cases by number, of these seeds those that make one."""
    for plan, one, other in made_pairs(seeds, most):
        if marked_otherwise(plan, one, most) != marked_otherwise(plan, other, most):
            yield plan, one, other, most


def unlike_otherwise(plan, one, other):
    """What unlike must tell, found in another way."""
    names = [name for name, a, b in zip(plan[1], one[0], other[0]) if a != b]
    return names + [piece for piece in range(plan[2]) if one[1][piece] != other[1][piece]]


def all_mixes(case):
    """All mixes of a case."""
    mixes = [[]]
    for thing in unlike_otherwise(*case[:3]):
        mixes += [mix + [thing] for mix in mixes]
    return mixes


def stand_otherwise(case, mix):
    """What mixed must tell, found in another way."""
    plan, sound, faulty, _ = case
    numbers = [faulty[0][i] if name in mix else sound[0][i] for i, name in enumerate(plan[1])]
    return tuple(numbers), tuple(faulty[1][i] if i in mix else sound[1][i] for i in range(plan[2]))


def verdict_otherwise(case, mix):
    """What verdict must tell, found in another way."""
    return verdicts_of(case, [mix])[tuple(mix)]


def verdicts_otherwise(case, things=None):
    """The verdicts of all mixes, or of all that are of these things, each by a run of its own: a dict by tuples."""
    return verdicts_of(case, all_mixes(case) if things is None else subsets(things))


def verdicts_of(case, mixes):
    """The verdicts of mixes, a dict by tuples."""
    plan, sound, faulty, most = case
    words = {marked_otherwise(plan, sound, most): "sound", marked_otherwise(plan, faulty, most): "faulty"}
    marks = [marked_otherwise(plan, stand_otherwise(case, mix), most) for mix in mixes]
    return {tuple(mix): words.get(mark, "other") for mix, mark in zip(mixes, marks)}


def subsets(things):
    """All tuples of some of the things, in their order, by their numbers' lists."""
    told = [()]
    for thing in reversed(things):
        told = [()] + [(thing,) + rest for rest in told] + told[1:]
    return told


def least(sets):
    """Of tuples those that have none of the others within them, as lists, in the order in which they come."""
    held = [(one, frozenset(one)) for one in sets]
    return [list(one) for one, all_of in held if not any(other < all_of for _, other in held)]


def asked_in(tree):
    """The things that a tree asks, a set."""
    if tree[0] == "end":
        return set()
    return {tree[1]} | asked_in(tree[2]) | asked_in(tree[3])


def great_cases(seeds, most=60):
    """Cases of thirty to fifty-two unlike things, of which few rows read few; of these seeds those that make one."""
    for seed in seeds:
        chance = random.Random(seed)
        m = chance.choice((2, 3, 10))
        names = tuple("lkjihgfedcba")
        rows = made_rows(chance, m, names[:4], 40, 0, [chance.randint(2, 9)])
        plan = (m, names, 40, rows, chance.choice(names[:4]))
        alike = set(chance.sample(range(4, 52), chance.choice((0, 0, 5, 22))))
        sound = [chance.randrange(m) for _ in range(52)]
        faulty = [n if i in alike else (n + chance.randint(1, m - 1)) % m for i, n in enumerate(sound)]
        one, other = [(tuple(part[:12]), tuple(part[12:])) for part in (sound, faulty)]
        marks = [marked_otherwise(plan, stand, most) for stand in (one, other)]
        if None not in marks and marks[0] != marks[1]:
            yield plan, one, other, most


def busy_cases(seeds, most=60):
    """Cases of few things, all unlike, most of which matter; of these seeds those that make one."""
    for seed in seeds:
        chance = random.Random(seed)
        m = chance.choice((2, 2, 3))
        names = ("b", "a", "d", "c")
        rows = []
        for number in range(chance.randint(5, 12)):
            x, y, z = [chance.choice(names) for _ in range(3)]
            word = chance.choice(("sum", "by", "by", "less", "same", "take", "take", "pick", "if"))
            short = {"take": ("take", x, chance.randrange(4)), "pick": ("pick", x, y)}
            branch = (("by", y, y, z),), (("take", z, number % 4),)
            short["if"] = ("if", x, *(branch if chance.random() < 0.5 else branch[::-1]))
            rows.append(short.get(word, (word, x, y, z)))
        if chance.random() < 0.3:
            rows.append(("again", "c", (("less", "c", "a", "c"), ("take", "a", 1))))
        plan = (m, names, 4, tuple(rows), "a")
        sound = [chance.randrange(m) for _ in range(8)]
        faulty = [(number + chance.randint(1, m - 1)) % m for number in sound]
        one, other = [(tuple(part[:4]), tuple(part[4:])) for part in (sound, faulty)]
        marks = [marked_otherwise(plan, stand, most) for stand in (one, other)]
        if None not in marks and marks[0] != marks[1]:
            yield plan, one, other, most


def threshold_case(many, needed, most=3000):
    """A case of so many pieces that goes wrong where so many of them, or more, are faulty; the tree asks all."""
    rows = [("put", "a", 0)]
    for piece in range(many):
        rows += [("take", "b", piece), ("sum", "a", "a", "b")]
    rows += [("put", "b", needed), ("less", "a", "a", "b")]
    plan = plan_of(rows, m=997, many=many)
    return plan, ((0, 0, 0), (0,) * many), ((0, 0, 0), (1,) * many), most


def weighed_case(value):
    """A case of eleven pieces and 1024 ends, and two ends more for each value of the first nine below the given one."""
    rows = [("put", "a", 0)]
    for piece in range(9):
        rows += [("take", "b", piece), ("sum", "a", "a", "b")]
    rows += [("put", "b", value), ("less", "b", "a", "b"), ("take", "c", 9), ("if", "b", (("take", "b", 10),), ())]
    plan = plan_of(rows, m=997, many=11)
    return plan, ((0, 0, 0), (0,) * 11), ((0, 0, 0), tuple(2 ** i for i in range(9)) + (1, 1)), 3000


def case_of_ends(ends):
    """A case of nine pieces and just so many ends, from 256 to 512: the ninth is read where the value of the others
    lies below ends - 256."""
    rows = [("put", "a", 0)]
    for piece in range(8):
        rows += [("take", "b", piece), ("sum", "a", "a", "b")]
    rows += [("put", "b", ends - 256), ("less", "b", "a", "b"), ("if", "b", (("take", "b", 8),), ())]
    return plan_of(rows, m=997, many=9), ((0,) * 3, (0,) * 9), ((0,) * 3, tuple(2 ** i for i in range(8)) + (1,)), 900


def lone_cases(count):
    """Cases of so many unlike things: for each of them one in which just the mixes with this one are faulty."""
    names = tuple("abcdefghijkl")
    for first in (names, tuple(range(40))):
        rest = tuple(range(40)) if first == names else names
        chosen = (first + rest)[:count]
        for thing in chosen:
            rows = () if isinstance(thing, str) else (("take", "b", thing),)
            plan = (2, names, 40, rows, thing if isinstance(thing, str) else "b")
            numbers = tuple(int(name in chosen) for name in names)
            pieces = tuple(int(piece in chosen) for piece in range(40))
            yield (plan, ((0,) * 12, (0,) * 40), (numbers, pieces), 9), thing


def taken_otherwise(plan, rows):
    """The pieces that rows may take, a set."""
    words = [part for row in rows for part in depths(row) if isinstance(part, tuple) and part[:1] in (("take",), ("pick",))]
    if any(word[0] == "pick" for word in words):
        return set(range(plan[2]))
    return {word[2] for word in words}


class Mixes:
    """All mixes of a case gone along one by one: the state of each at each moment, and the faulty pieces first read
    by each row; dry is the first moment whose row is too long for some mix, or None."""

    def __init__(self, case):
        self.case = case
        plan, sound, faulty, most = case
        self.moments = len(plan[3]) + 1
        self.unlike = unlike_otherwise(plan, sound, faulty)
        self.mixes = all_mixes(case)
        self.ways = [self.way(mix) for mix in self.mixes]
        dry = [len(way) - 1 for way in self.ways if len(way) < self.moments]
        self.dry = min(dry, default=None)

    def way(self, mix):
        """A list of (state, faulty pieces first read by the row ahead), as far as no row is too long."""
        plan, _, _, most = self.case
        numbers, pieces = stand_otherwise(self.case, mix)
        known = set()
        told = [((numbers, ()), 0)]
        for k, row in enumerate(plan[3]):
            sources = Sources(plan[:3] + ((row,), plan[4]), (numbers, pieces), most)
            if sources.dry:
                break
            read = {thing for of in sources.of.values() for thing in of if thing in self.unlike and isinstance(thing, int)}
            numbers = tuple(sources.numbers[name] for name in plan[1])
            later = taken_otherwise(plan, plan[3][k + 1:])
            faulty = [piece for piece in read - known if piece in mix]
            known |= read
            kept = tuple((piece, pieces[piece]) for piece in sorted(known & later))
            told.append(((numbers, kept), len(faulty)))
        return told

    def layers(self):
        """What layers must tell, where nothing is refused."""
        return [sorted(Counter(way[k][0] for way in self.ways).items()) for k in range(self.moments)]

    def most_states(self, until=None):
        """The most states that a layer has, of those at the first moments."""
        return max(len({way[k][0] for way in self.ways}) for k in range(self.moments)[:until])

    def mark_at_end(self, way):
        return way[-1][0][0][self.case[0][1].index(self.case[0][4])]

    def faulty_mark(self):
        return self.mark_at_end(self.ways[-1])

    def fewest(self):
        """How few faulty things make the faulty mark."""
        marks = [self.mark_at_end(way) for way in self.ways]
        return min(len(mix) for mix, mark in zip(self.mixes, marks) if mark == marks[-1])

    def bears(self, number, worths):
        """Whether worths of the right form bear out a number, as point 21 has it."""
        held = [dict(part) for part in worths]
        for mix, way in zip(self.mixes, self.ways):
            names = len([thing for thing in mix if isinstance(thing, str)])
            first = held[0][way[0][0]]
            last = held[-1][way[-1][0]]
            if first is not None and first + names < number:
                return False
            if (last, type(last)) != ((0, int) if self.mark_at_end(way) == self.faulty_mark() else (None, type(None))):
                return False
            for k in range(self.moments - 1):
                here, behind = held[k][way[k][0]], held[k + 1][way[k + 1][0]]
                if behind is not None and (here is None or behind < here - way[k + 1][1]):
                    return False
        return True


def spoil(told):
    """Change every list in what was told."""
    for part in list(told) if isinstance(told, (tuple, list)) else []:
        spoil(part)
    if isinstance(told, list):
        told.reverse()
        told.append("spoilt")


def depths(told):
    """All that lies in what was told, and itself."""
    yield told
    for part in told if isinstance(told, (tuple, list)) else ():
        yield from depths(part)


class TellsAnew:
    """For tests: a call keeps and changes nothing, and its lists are the asker's own."""

    def tells_anew(self, call, *handed):
        kept = repr(handed)
        told = call(*handed)
        words = repr(told)
        self.assertEqual(repr(handed), kept)
        self.assertTrue({type(part) for part in depths(told)} <= {tuple, list, int, str, bool, type(None)})
        spoil(told)
        self.assertEqual(repr(handed), kept)
        self.assertEqual(repr(call(*handed)), words)


# Things of every sort that are told to be nothing special, and some at greater depth.
ANY_THINGS = (
    None, True, False, 0, 1, -1, 7, 10 ** 59, -(10 ** 59), "", "a", "ask", "end", "x y", (), [], (None,), [None], ((),), [[]],
    (True,), (0,), [0], ("a",), ["a"], ("a", []), ("a", ()), ["a", []], ("a", [()]), ("a", [[]]), ("a", [(0,)]), ("a", [[0]]),
    (0, [(0,)]), (True, []), (None, []), (None, None), ("end", 0), ("end", True), ("end", None), ("end",), ["end", 0],
    ("end", 0, 0), ("ask", "a", ("end", 0), ("end", 1)), ("ask", 0, ("end", 0), ("end", 1)), ("ask",), ("ask", "a", 0, 1),
    ([[[[[[[[[[[[0]]]]]]]]]]]]), ((((((((((((0,),),),),),),),),),),),), [()] * 9, (((), ()), None), [((((),), ()), 0)],
)
