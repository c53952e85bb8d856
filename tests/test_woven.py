import random
import unittest

from tests.helper import (
    TellsAnew, least, marked_otherwise, names_set, plan_of, rich_plan, run_otherwise, subsets, within,
)
from twinstride.causes import least_causes
from twinstride.errors import NoBuild, NoCase, TooBig, TooMany
from twinstride.mixes import marks
from twinstride.plans import is_plan
from twinstride.woven import case_of, rows_to_blame, unlike_rows, woven

PUT = ("put", "a", 1)


def row_places(rows, at=()):
    """The places of all rows that set their own x, as in round 0 of an again."""
    for j, row in enumerate(rows):
        place = at + (j,)
        if row[0] == "if":
            yield from row_places(row[2], place + (1,))
            yield from row_places(row[3], place + (0,))
        elif row[0] == "again":
            yield from row_places(row[2], place + (0,))
        else:
            yield place


def row_at(rows, place):
    row = rows[place[0]]
    if len(place) == 1:
        return row
    return row_at(row[3 - place[1]] if row[0] == "if" else row[2], place[2:])


def with_row(rows, place, new):
    """The rows, with another one at a place."""
    row = rows[place[0]]
    if len(place) > 1:
        at = 3 - place[1] if row[0] == "if" else 2
        new = row[:at] + (with_row(row[at], place[2:], new),) + row[at + 1:]
    return rows[:place[0]] + (new,) + rows[place[0] + 1:]


def exchanged(one, other, places):
    """The one plan with the other's rows at these places."""
    rows = one[3]
    for place in places:
        rows = with_row(rows, place, row_at(other[3], place))
    return one[:3] + (rows, one[4])


def without_picks(rows):
    told = []
    for row in rows:
        if row[0] == "pick":
            row = ("take", row[1], 0)
        told.append(tuple(without_picks(part) if isinstance(part, tuple) else part for part in row))
    return tuple(told)


def made_twins(seeds):
    """Two plans of one build, few of whose rows are unlike, with a stand; of these seeds those that can be woven."""
    for seed in seeds:
        plan, stand = rich_plan(seed)
        plan = plan[:3] + (without_picks(plan[3]), plan[4])
        chance = random.Random(seed)
        places = list(row_places(plan[3]))
        chosen = chance.sample(places, min(len(places), chance.randint(0, 6)))
        rows = plan[3]
        for place in chosen:
            x, y, z = [chance.choice(plan[1]) for _ in range(3)]
            new = [("put", x, chance.randrange(plan[0])), ("sum", x, y, z), ("by", x, y, z), ("same", x, y, z)]
            if plan[2]:
                new.append(("take", x, chance.randrange(plan[2])))
            rows = with_row(rows, place, chance.choice(new))
        fits = plan[2] + len(chosen) <= 40 and all(len(place) < 9 for place in chosen)
        if fits and len(places) + 3 * len(chosen) <= 50:
            yield plan, plan[:3] + (rows, plan[4]), stand


def unlike_places(one, other):
    return sorted(place for place in row_places(one[3]) if row_at(one[3], place) != row_at(other[3], place))


class UnlikeRowsTest(unittest.TestCase):
    def test_at_the_top(self):
        one = plan_of([("put", "a", 1), ("put", "a", 2), ("sum", "a", "b", "c"), ("take", "b", 1)])
        other = plan_of([("put", "a", 1), ("put", "b", 2), ("by", "a", "b", "c"), ("take", "b", 1)])
        self.assertEqual(repr(unlike_rows(one, other)), "[(1,), (2,)]")
        self.assertEqual(repr(unlike_rows(one, one)), "[]")

    def test_within_ifs_and_agains(self):
        def plan(k):
            rows = (("put", "a", k), ("again", "b", (("put", "c", k), ("put", "c", 1), ("if", "c", (), (("put", "c", k),)))))
            return plan_of([PUT, ("if", "a", rows, (PUT, ("put", "a", k)))])

        wanted = [(1, 0, 1), (1, 1, 0), (1, 1, 1, 0, 0), (1, 1, 1, 0, 2, 0, 0)]
        self.assertEqual(unlike_rows(plan(2), plan(3)), wanted)

    def test_places_rise(self):
        # The second rows of an if have the smaller places.
        one = plan_of([("if", "a", (("put", "b", 1),), (("put", "b", 1),)), ("put", "b", 1)])
        other = plan_of([("if", "a", (("put", "b", 2),), (("put", "b", 2),)), ("put", "b", 2)])
        self.assertEqual(unlike_rows(one, other), [(0, 0, 0), (0, 1, 0), (1,)])
        self.assertEqual(
            woven(one, other)[3],
            (
                ("if", "a",
                 (("take", "d", 4), ("if", "d", (("put", "b", 2),), (("put", "b", 1),))),
                 (("take", "d", 3), ("if", "d", (("put", "b", 2),), (("put", "b", 1),)))),
                ("take", "d", 5), ("if", "d", (("put", "b", 2),), (("put", "b", 1),)),
            ),
        )

    def test_unlike_by_any_part(self):
        one = ("sum", "a", "b", "c")
        for row in (("sum", "b", "b", "c"), ("sum", "a", "a", "c"), ("sum", "a", "b", "b"), ("same", "a", "b", "c"), PUT, ("take", "a", 0)):
            self.assertEqual(unlike_rows(plan_of([one]), plan_of([row])), [(0,)])
            self.assertEqual(unlike_rows(plan_of([row]), plan_of([one])), [(0,)])
        self.assertEqual(unlike_rows(plan_of([PUT]), plan_of([("put", "a", 2)])), [(0,)])
        self.assertEqual(unlike_rows(plan_of([("take", "a", 2)]), plan_of([("take", "a", 0)])), [(0,)])

    def test_made_plans(self):
        several = 0
        for one, other, _ in made_twins(range(300)):
            wanted = unlike_places(one, other)
            self.assertEqual(repr(unlike_rows(one, other)), repr(wanted))
            several += len(wanted) > 2
        self.assertGreater(several, 30)


class NoBuildTest(unittest.TestCase):
    def refused(self, one, other):
        self.assertTrue(is_plan(one) and is_plan(other))
        stand = ((0,) * len(one[1]), (0,) * one[2])
        for first, second in ((one, other), (other, one)):
            for call in (unlike_rows, woven):
                with self.assertRaises(NoBuild):
                    call(first, second)
            for call in (case_of, rows_to_blame):
                with self.assertRaises(NoBuild):
                    call(first, second, stand, 30)

    def test_unlike_heads(self):
        rows = [("put", "a", 1)]
        one = plan_of(rows)
        for other in (
            plan_of(rows, m=11), plan_of(rows, names=("a", "b")), plan_of(rows, names=("a", "b", "d")),
            plan_of(rows, names=("a", "c", "b")), plan_of(rows, many=4), plan_of(rows, mark="b"),
        ):
            self.refused(one, other)

    def test_picks(self):
        pick = ("pick", "a", "b")
        self.refused(plan_of([pick]), plan_of([pick]))
        self.refused(plan_of([pick]), plan_of([PUT]))
        self.refused(plan_of([("if", "a", (), (pick,))]), plan_of([("if", "a", (), (pick,))]))
        self.refused(plan_of([PUT, ("again", "a", (PUT, pick))]), plan_of([PUT, ("again", "a", (PUT, PUT))]))

    def test_rows_that_do_not_stand_likewise(self):
        if_row = ("if", "a", (PUT,), (PUT,))
        again = ("again", "a", (PUT,))
        rows = [
            [], [PUT], [PUT, PUT], [if_row], [again], [("if", "b", (PUT,), (PUT,))], [("again", "b", (PUT,))],
            [("if", "a", (), (PUT,))], [("if", "a", (PUT,), ())], [("if", "a", (PUT, PUT), (PUT,))],
            [("if", "a", (PUT,), (again,))],
            [("if", "a", (if_row,), (PUT,))], [("again", "a", ())], [("again", "a", (PUT, PUT))],
            [("again", "a", (again,))],
            [PUT, again], [again, PUT], [if_row, PUT], [PUT, if_row],
        ]
        for i, one in enumerate(rows):
            self.assertEqual(unlike_rows(plan_of(one), plan_of(one)), [])
            for other in rows[i + 1:]:
                self.refused(plan_of(one), plan_of(other))

    def test_goes_ahead_of_too_big_and_no_case(self):
        names = tuple("abcdefghijkl")
        self.refused(plan_of([PUT], names=names), plan_of([PUT, PUT], names=names))
        self.refused(plan_of([("again", "b", ())]), plan_of([("again", "c", ())]))


class WovenTest(unittest.TestCase):
    def test_by_hand(self):
        one = plan_of([("put", "a", 1), ("sum", "b", "a", "c")])
        other = plan_of([("put", "a", 1), ("by", "b", "a", "c")])
        rows = (("put", "a", 1), ("take", "d", 3), ("if", "d", (("by", "b", "a", "c"),), (("sum", "b", "a", "c"),)))
        self.assertEqual(repr(woven(one, other)), repr((10, ("a", "b", "c", "d"), 4, rows, "a")))
        rows = rows[:2] + (("if", "d", (("sum", "b", "a", "c"),), (("by", "b", "a", "c"),)),)
        self.assertEqual(woven(other, one), (10, ("a", "b", "c", "d"), 4, rows, "a"))

    def test_no_unlike_rows(self):
        plan = plan_of(within(3, (PUT,)))
        self.assertEqual(woven(plan, plan), (10, ("a", "b", "c", "d"), 3, plan[3], "a"))
        plan = plan_of([], many=0)
        self.assertEqual(woven(plan, plan), (10, ("a", "b", "c", "d"), 0, (), "a"))

    def test_within_an_again(self):
        one = plan_of([("again", "a", (("put", "a", 0), ("put", "b", 1)))], many=0)
        other = plan_of([("again", "a", (("put", "a", 0), ("put", "b", 2)))], many=0)
        inner = (("put", "a", 0), ("take", "d", 0), ("if", "d", (("put", "b", 2),), (("put", "b", 1),)))
        self.assertEqual(woven(one, other)[2:4], (1, (("again", "a", inner),)))

    def test_the_new_name(self):
        for names, wanted in (
            (("b",), "a"), (("a",), "b"), (("a", "c"), "b"), (("c", "b", "a"), "d"), (("aa", "ab"), "a"),
            (("z", "a"), "b"),
            (tuple("abcdefghijk"), "l"), (tuple("kjihgfedcba"), "l"), (tuple("bcdefghijkl"), "a"),
            (tuple("abcdefghijl"), "k"),
        ):
            plan = (10, names, 0, (), names[0])
            self.assertEqual(woven(plan, plan), (10, names + (wanted,), 0, (), names[0]))

    def test_each_bound_just_kept_and_just_broken(self):
        def twins(rows, others, **more):
            return plan_of(rows, **more), plan_of(others, **more)

        two = ("put", "a", 2)
        eleven = tuple("abcdefghijk")
        deep = within(3, (PUT,)), within(3, (two,))
        kept = [
            twins([], [], names=eleven), twins([PUT], [two], names=eleven), twins([PUT] * 10, [two] * 10, many=30),
            twins([PUT] * 15, [two] * 15), twins([PUT] * 59, [PUT] * 58 + [PUT]), twins([PUT] * 57, [two] + [PUT] * 56),
            twins([PUT] * 60, [PUT] * 60), twins(*deep), twins(within(4, (PUT,)), within(4, (PUT,))), twins([PUT], [two], many=39),
            twins([], [], many=40),
        ]
        broken = [
            twins([], [], names=eleven + ("l",)), twins([PUT], [two], names=eleven + ("m",)), twins([PUT] * 11, [two] * 11, many=30),
            twins([PUT] * 16, [two] * 16), twins([PUT] * 58, [two] + [PUT] * 57), twins([PUT] * 60, [two] + [PUT] * 59),
            twins(within(4, (PUT,)), within(4, (two,))), twins([PUT], [two], many=40), twins([PUT] * 40, [two] * 40),
        ]
        for one, other in kept:
            self.assertTrue(is_plan(one) and is_plan(other) and is_plan(woven(one, other)))
        for one, other in broken:
            self.assertTrue(is_plan(one) and is_plan(other))
            stand = ((0,) * len(one[1]), (0,) * one[2])
            with self.assertRaises(TooBig):
                woven(one, other)
            for call in (case_of, rows_to_blame):
                for most in (0, 3000):
                    with self.assertRaises(TooBig):
                        call(one, other, stand, most)
            self.assertEqual(unlike_rows(one, other), unlike_places(one, other))

    def test_does_the_rows_of_either(self):
        seen = dry = 0
        for one, other, stand in made_twins(range(300)):
            plan = woven(one, other)
            self.assertTrue(is_plan(plan))
            places = unlike_rows(one, other)
            self.assertEqual((plan[0], plan[1][:-1], plan[2], plan[4]), (one[0], one[1], one[2] + len(places), one[4]))
            for numbers, done in ((0, one), (1, other), (one[0] - 1, other)):
                end = run_otherwise(done, stand, 200)[1]
                long = run_otherwise(plan, (stand[0] + (0,), stand[1] + (numbers,) * len(places)), 3000)[1]
                if end is None:
                    dry += 1
                    continue
                self.assertEqual(long[:-1], end)
                seen += end != run_otherwise(one, stand, 200)[1]
        self.assertGreater(seen, 40)

    def test_does_any_rows_of_both(self):
        seen = 0
        for one, other, stand in made_twins(range(150)):
            plan = woven(one, other)
            places = unlike_rows(one, other)
            for chosen in subsets(places)[:32]:
                end = run_otherwise(exchanged(one, other, chosen), stand, 200)[1]
                if end is not None:
                    flags = tuple(int(place in chosen) for place in places)
                    told = run_otherwise(plan, (stand[0] + (0,), stand[1] + flags), 3000)[1]
                    self.assertEqual(told[:-1], end)
                    seen += 0 < len(chosen) < len(places)
        self.assertGreater(seen, 100)

    def test_the_new_name_is_set_by_the_new_rows_alone(self):
        for one, other, _ in made_twins(range(60)):
            plan = woven(one, other)
            self.assertEqual(plan[1][-1] in names_set(plan[3]), unlike_rows(one, other) != [])
            self.assertNotIn(plan[1][-1], one[1])


class CaseOfTest(unittest.TestCase):
    ONE = plan_of([("put", "a", 1), ("sum", "b", "a", "c")], mark="b")
    OTHER = plan_of([("put", "a", 2), ("by", "b", "a", "c")], mark="b")
    STAND = ((7, 8, 9), (4, 5, 6))

    def test_by_hand(self):
        plan = woven(self.ONE, self.OTHER)
        wanted = (plan, ((7, 8, 9, 0), (4, 5, 6, 0, 0)), ((7, 8, 9, 0), (4, 5, 6, 1, 1)), 30)
        self.assertEqual(repr(case_of(self.ONE, self.OTHER, self.STAND, 30)), repr(wanted))
        self.assertEqual(marks(wanted), (0, 8))

    def test_no_case(self):
        alike = plan_of([("put", "a", 2), ("sum", "b", "a", "c")], mark="c")
        other = plan_of([("put", "a", 1), ("sum", "b", "a", "c")], mark="c")
        for one, two, most in ((self.ONE, self.ONE, 30), (alike, other, 30), (self.ONE, self.OTHER, 5), (self.ONE, self.OTHER, 0)):
            for call in (case_of, rows_to_blame):
                with self.assertRaises(NoCase):
                    call(one, two, self.STAND, most)
        # Either plan by itself has two steps, the woven one six.
        self.assertEqual(case_of(self.ONE, self.OTHER, self.STAND, 6)[3], 6)

    def test_which_refusal_goes_first(self):
        forever = [("put", "a", 1), ("again", "a", ())]
        other = [("put", "a", 2), ("again", "a", ())]
        for call in (case_of, rows_to_blame):
            with self.assertRaises(NoCase):
                call(plan_of(forever), plan_of(other), self.STAND, 3000)
            with self.assertRaises(NoBuild):
                call(plan_of(forever), plan_of(other + [PUT]), self.STAND, 3000)
            with self.assertRaises(TooBig):
                call(plan_of(forever, many=40), plan_of(other, many=40), ((7, 8, 9), (0,) * 40), 3000)
        with self.assertRaises(NoCase):
            rows_to_blame(plan_of(forever), plan_of(other), self.STAND, 3000, 1)
        with self.assertRaises(TooMany):
            rows_to_blame(self.ONE, self.OTHER, self.STAND, 3000, 1)


class RowsToBlameTest(unittest.TestCase):
    def test_by_hand(self):
        one = plan_of([("put", "a", 1), ("if", "a", (("put", "b", 1), ("put", "c", 1)), ()), ("by", "a", "b", "c")])
        other = plan_of([("put", "a", 2), ("if", "a", (("put", "b", 2), ("put", "c", 3)), ()), ("by", "a", "b", "c")])
        stand = ((0, 0, 0), (0, 0, 0))
        self.assertEqual(repr(rows_to_blame(one, other, stand, 30)), "[[(1, 1, 0), (1, 1, 1)]]")
        other = plan_of([("put", "a", 2), ("if", "a", (("put", "b", 2), ("put", "c", 2)), ()), ("same", "a", "b", "b")])
        self.assertEqual(marked_otherwise(one, stand, 30), 1)
        with self.assertRaises(NoCase):
            rows_to_blame(one, other, stand, 30)

    def test_each_suffices(self):
        one = plan_of([("put", "a", 1), ("put", "b", 1), ("by", "a", "a", "b")])
        other = plan_of([("put", "a", 0), ("put", "b", 0), ("by", "a", "a", "b")])
        self.assertEqual(rows_to_blame(one, other, ((0,) * 3, (0,) * 3), 30), [[(0,)], [(1,)]])

    def test_against_all_sets_of_rows(self):
        several = lists = 0
        for one, other, stand in made_twins(range(500)):
            places = unlike_rows(one, other)
            first, last = [marked_otherwise(plan, stand, 200) for plan in (one, other)]
            told = {chosen: marked_otherwise(exchanged(one, other, chosen), stand, 200) for chosen in subsets(places)}
            if first is None or last is None or first == last:
                continue
            if None in told.values():
                continue
            wanted = least([chosen for chosen in subsets(places) if told[chosen] == last])
            self.assertEqual(repr(rows_to_blame(one, other, stand, 3000)), repr(wanted))
            several += len(places) > 1
            lists += len(wanted) > 1 or len(wanted[0]) > 1
        self.assertGreater(several, 30)
        self.assertGreater(lists, 5)

    def test_by_the_least_causes_of_the_case(self):
        for one, other, stand in made_twins(range(200)):
            places = unlike_rows(one, other)
            try:
                case = case_of(one, other, stand, 60)
            except NoCase:
                continue
            causes = least_causes(case)
            wanted = [[places[piece - one[2]] for piece in cause] for cause in causes]
            self.assertEqual(rows_to_blame(one, other, stand, 60), wanted)

    def many_rows(self, count):
        """So many rows that count, each of which does it."""
        rows = [[("put", "a", 0)] + [row for _ in range(count) for row in (("put", "b", k), ("sum", "a", "a", "b"))] for k in (0, 1)]
        last = [("if", "a", (("put", "a", 1),), ())]
        return [plan_of(part + last, m=997) for part in rows]

    def test_too_many(self):
        one, other = self.many_rows(9)
        stand = ((0,) * 3, (0,) * 3)
        wanted = [[(2 * i + 1,)] for i in range(9)]
        self.assertEqual(rows_to_blame(one, other, stand, 3000, 512), wanted)
        self.assertEqual(rows_to_blame(one, other, stand, 3000, limit=2000), wanted)
        for limit in (1, 511):
            with self.assertRaises(TooMany):
                rows_to_blame(one, other, stand, 3000, limit)
        with self.assertRaises(TooMany):
            rows_to_blame(one, other, stand, 3000)
        one, other = self.many_rows(8)
        self.assertEqual(rows_to_blame(one, other, stand, 3000), wanted[:8])


class NothingKeptTest(unittest.TestCase, TellsAnew):
    def test_what_is_handed_in_is_as_it_was(self):
        for one, other, stand in made_twins(range(100)):
            self.tells_anew(unlike_rows, one, other)
            self.tells_anew(woven, one, other)
            try:
                self.tells_anew(case_of, one, other, stand, 100)
                self.tells_anew(rows_to_blame, one, other, stand, 100)
            except NoCase:
                pass


if __name__ == "__main__":
    unittest.main()
