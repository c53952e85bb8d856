import random
import unittest
from itertools import combinations

from tests.helper import (
    ANY_THINGS, TellsAnew, asked_in, busy_cases, case_of_ends, great_cases, least, lone_cases, made_cases, plan_of, subsets, threshold_case,
    unlike_otherwise, verdict_otherwise, verdicts_otherwise, weighed_case,
)
from twinstride.causes import are_causes, fewest, least_causes, least_remedies
from twinstride.errors import NoCase, TooMany
from twinstride.plans import is_plan
from twinstride.trees import tree

SOUND = ((1, 2, 3), (4, 5, 6))
FAULTY = ((2, 3, 4), (5, 6, 7))


def all_told(case, limit=500):
    return fewest(case, limit), least_causes(case, limit), least_remedies(case, limit)


def in_order(case, mixes):
    """The mixes by the lists of their things' numbers among the unlike ones."""
    things = unlike_otherwise(*case[:3])
    return sorted(mixes, key=lambda mix: [things.index(thing) for thing in mix])


def told_otherwise(case, things=None):
    """What is to be told, by the verdicts of all mixes of these things (of all, where none are given) one by one."""
    verdicts = verdicts_otherwise(case, things)
    every = things if things is not None else unlike_otherwise(*case[:3])
    causes = in_order(case, [mix for mix, verdict in verdicts.items() if verdict == "faulty"])
    rests = [mix for mix, verdict in verdicts.items() if verdict == "sound"]
    remedies = in_order(case, [tuple(thing for thing in every if thing not in rest) for rest in rests])
    few = min(len(mix) for mix in causes)
    first = next(list(mix) for mix in causes if len(mix) == few)
    return first, least(causes), least(remedies)


class ByHandTest(unittest.TestCase):
    def case(self, rows, sound=SOUND, faulty=FAULTY, most=3000, **more):
        plan = plan_of(rows, **more)
        self.assertTrue(is_plan(plan))
        return (plan, sound, faulty, most)

    def told_is(self, case, cause, causes, remedies):
        self.assertEqual(repr(all_told(case)), repr((cause, causes, remedies)))
        self.assertEqual(told_otherwise(case), (cause, causes, remedies))

    def test_a_single_unlike_thing(self):
        self.told_is(self.case([], faulty=((2, 2, 3), SOUND[1])), ["a"], [["a"]], [["a"]])
        self.told_is(self.case([("take", "a", 1)], faulty=(SOUND[0], (4, 6, 6))), [1], [[1]], [[1]])

    def test_one_of_many_things(self):
        self.told_is(self.case([]), ["a"], [["a"]], [["a"]])
        self.told_is(self.case([("take", "a", 2)]), [2], [[2]], [[2]])

    def test_both_needed(self):
        case = self.case([("by", "a", "b", "c")], ((0, 0, 0), SOUND[1]), ((0, 1, 1), FAULTY[1]))
        self.told_is(case, ["b", "c"], [["b", "c"]], [["b"], ["c"]])

    def test_each_suffices(self):
        rows = [("if", "b", (("put", "a", 0),), ()), ("if", "c", (("put", "a", 0),), ())]
        case = self.case(rows, ((1, 0, 0), SOUND[1]), ((1, 1, 1), FAULTY[1]))
        self.told_is(case, ["b"], [["b"], ["c"]], [["b", "c"]])

    def test_the_first_of_those_with_fewest_things(self):
        # The mark is wrong with c and piece 0, with b and piece 2, with all of b, c and piece 1; the first has b.
        rows = [
            ("take", "a", 0), ("by", "a", "a", "c"),
            ("take", "d", 2), ("by", "d", "d", "b"), ("sum", "a", "a", "d"),
            ("take", "d", 1), ("by", "d", "d", "b"), ("by", "d", "d", "c"), ("sum", "a", "a", "d"),
            ("if", "a", (("put", "a", 1),), ()),
        ]
        names = ("a", "b", "c", "d")
        case = self.case(rows, ((0,) * 4, (0,) * 3), ((0, 1, 1, 0), (1,) * 3), names=names)
        causes = [["b", "c", 1], ["b", 2], ["c", 0]]
        self.told_is(case, ["b", 2], causes, [["b", "c"], ["b", 0], ["c", 2], [0, 1, 2]])

    def test_the_order_is_that_of_numbers_not_of_lengths_or_texts(self):
        # Names out of the order of letters, and pieces beyond nine.
        names = ("z", "y", "a")
        rows = [("if", "z", (("put", "a", 0),), ())]
        rows += [("take", "y", 2), ("take", "z", 10), ("by", "y", "y", "z"), ("if", "y", (("put", "a", 0),), ())]
        rows += [("take", "z", 11), ("if", "z", (("put", "a", 0),), ())]
        pieces = [0] * 12
        faulty = [0] * 12
        for piece in (2, 10, 11):
            faulty[piece] = 1
        case = self.case(rows, ((0, 0, 1), tuple(pieces)), ((1, 0, 1), tuple(faulty)), names=names, many=12, mark="a")
        self.told_is(case, ["z"], [["z"], [2, 10], [11]], [["z", 2, 11], ["z", 10, 11]])
        # A mix with one thing more than another comes behind it; what lies within is no least cause, so by fewest.
        case = self.case(rows[1:], ((0, 0, 1), tuple(pieces)), ((1, 0, 1), tuple(faulty)), names=names, many=12, mark="a")
        self.told_is(case, [11], [[2, 10], [11]], [[2, 11], [10, 11]])

    def test_a_case_that_is_not_even(self):
        # b mends what c breaks, unless piece 0 is faulty too.
        rows = [
            ("if", "c", (("if", "b", (), (("put", "a", 1),)),), ()),
            ("take", "c", 0), ("if", "c", (("put", "a", 1),), ()),
        ]
        case = self.case(rows, ((0, 0, 0), (0, 0, 0)), ((0, 1, 1), (1, 0, 0)))
        self.told_is(case, ["c"], [["c"], [0]], [["c", 0], [0]][1:])

    def test_other_verdicts_are_neither(self):
        case = self.case([("sum", "a", "b", "c")])
        self.told_is(case, ["b", "c"], [["b", "c"]], [["b", "c"]])

    def test_dry_mixes_are_neither(self):
        rows = [("sum", "a", "b", "c"), ("put", "b", 6), ("same", "b", "a", "b"), ("again", "b", ())]
        case = self.case(rows, ((0, 1, 3), (0, 0, 0)), ((0, 2, 5), (0, 0, 0)), most=30)
        self.assertEqual(verdict_otherwise(case, ["c"]), "other")
        self.told_is(case, ["b", "c"], [["b", "c"]], [["b", "c"]])

    def test_the_wheel_brings_the_fault_back(self):
        # Three pieces of one each on a wheel of two: one faulty thing, or all three.
        rows = [("put", "a", 0)] + [row for i in range(3) for row in (("take", "b", i), ("sum", "a", "a", "b"))]
        case = self.case(rows, ((0, 0, 0), (0, 0, 0)), ((0, 0, 0), (1, 1, 1)), m=2)
        self.told_is(case, [0], [[0], [1], [2]], [[0], [1], [2]])


class AgainstAllMixesTest(unittest.TestCase):
    def test_made_cases(self):
        seen = {"other": 0, "causes": 0, "remedies": 0, "not first": 0}
        made = [case for most in (60, 9, 6) for case in made_cases(range(300), most)]
        for case in made + list(busy_cases(range(250))):
            wanted = told_otherwise(case)
            self.assertEqual(repr(all_told(case)), repr(wanted))
            seen["other"] += "other" in verdicts_otherwise(case).values()
            seen["causes"] += len(wanted[1]) > 1
            seen["remedies"] += len(wanted[2]) > 1
            seen["not first"] += wanted[0] != wanted[1][0]
        self.assertGreater(min(seen.values()), 10, seen)

    def test_great_cases(self):
        several = 0
        for case in great_cases(range(500)):
            asked = asked_in(tree(case, 2000))
            things = [thing for thing in unlike_otherwise(*case[:3]) if thing in asked]
            if len(things) > 8:
                continue
            self.assertGreaterEqual(len(unlike_otherwise(*case[:3])), 30)
            wanted = told_otherwise(case, things)
            self.assertEqual(repr(all_told(case)), repr(wanted))
            several += len(wanted[1]) + len(wanted[2]) > 2
        self.assertGreater(several, 15)

    def test_lone_things(self):
        for count in (1, 2, 12, 13, 40, 41, 52):
            for case, thing in lone_cases(count):
                self.assertEqual(all_told(case, 2), ([thing], [[thing]], [[thing]]))


class ManyPiecesTest(unittest.TestCase):
    def test_sums(self):
        for many, needed in ((1, 1), (5, 1), (5, 3), (5, 5), (8, 4), (10, 5), (10, 7)):
            case = threshold_case(many, needed)
            causes = [list(mix) for mix in combinations(range(many), needed)]
            remedies = [list(mix) for mix in combinations(range(many), many - needed + 1)]
            self.assertEqual(all_told(case, 2 ** many), (causes[0], causes, remedies))
            self.assertIs(are_causes(case, causes[::-1], 2 ** many), True)

    def test_as_many_ends_as_the_limit_and_one_more(self):
        for many in (1, 4, 9, 10):
            case = threshold_case(many, 1)
            self.refused(case, 2 ** many)

    def refused(self, case, ends):
        """All is told with just so many ends, and refused with one less."""
        for call in (fewest, least_causes, least_remedies):
            self.assertEqual(call(case, ends), call(case, limit=2000))
            for limit in (1, ends - 1):
                with self.assertRaises(TooMany):
                    call(case, limit)
        for limit in (1, ends - 1):
            with self.assertRaises(TooMany):
                are_causes(case, [], limit)
        self.assertIs(are_causes(case, least_causes(case, 2000), ends), True)

    def test_two_thousand_ends(self):
        case = weighed_case(488)
        self.refused(case, 2000)
        self.assertEqual(least_causes(case, 2000), [list(range(9))])
        self.assertEqual(least_remedies(case, 2000), [list(range(9))])
        for call in (fewest, least_causes, least_remedies):
            with self.assertRaises(TooMany):
                call(weighed_case(489), 2000)

    def test_five_hundred_where_no_limit_is_told(self):
        case = threshold_case(9, 2)
        for call in (fewest, least_causes, least_remedies):
            with self.assertRaises(TooMany):
                call(case)
        with self.assertRaises(TooMany):
            are_causes(case, [])
        self.assertEqual(fewest(threshold_case(8, 2)), [0, 1])
        # Five hundred ends, and one more.
        for call in (fewest, least_causes, least_remedies):
            self.assertTrue(call(case_of_ends(500)))
            with self.assertRaises(TooMany):
                call(case_of_ends(501))


class AreCausesTest(unittest.TestCase):
    def test_other_lists(self):
        case = threshold_case(4, 2)
        told = least_causes(case)
        self.assertEqual(len(told), 6)
        for seed in range(9):
            self.assertIs(are_causes(case, random.Random(seed).sample(told, 6)), True)
        for number in range(6):
            self.assertIs(are_causes(case, told[:number] + told[number + 1:]), False)
            self.assertIs(are_causes(case, told + [told[number]]), False)
            twice = told[:number] + [told[number - 1]] + told[number + 1:]
            self.assertIs(are_causes(case, twice), False)
        for mix in ([], [0], [3], [0, 1, 2], [0, 1, 2, 3]):
            self.assertIs(are_causes(case, told + [mix]), False)
            self.assertIs(are_causes(case, told[1:] + [mix]), False)
        self.assertIs(are_causes(case, []), False)
        self.assertIs(are_causes(case, [[]]), False)

    def test_any_list_of_mixes(self):
        for case in made_cases(range(60), 60):
            mixes = [list(mix) for mix in subsets(unlike_otherwise(*case[:3]))][:64]
            told = least_causes(case)
            for mix in mixes:
                self.assertIs(are_causes(case, [mix]), told == [mix])
                self.assertIs(are_causes(case, told[:-1] + [mix]), mix == told[-1])
            self.assertIs(are_causes(case, told), True)

    def test_what_is_only_like_a_mix(self):
        case = (plan_of([("take", "a", 1)]), SOUND, (SOUND[0], FAULTY[1]), 9)
        self.assertIs(are_causes(case, [[1]]), True)
        for thing in ([[True]], [(1,)], [1], [[1, 1]], [[[1]]], ["1"], [None]):
            self.assertIs(are_causes(case, thing), False, thing)
        case = (plan_of([("take", "a", 1), ("take", "b", 2), ("by", "a", "a", "b")]), SOUND, FAULTY, 9)
        self.assertEqual(least_causes(case), [[1, 2]])
        self.assertIs(are_causes(case, [[2, 1]]), False)
        for thing in ANY_THINGS:
            self.assertIs(are_causes(case, [thing]), False)


class NoCaseTest(unittest.TestCase):
    def test_goes_first(self):
        wrong = [
            (plan_of([("by", "a", "b", "c")]), SOUND, SOUND, 30),
            (plan_of([("again", "a", ())]), SOUND, FAULTY, 30),
            (threshold_case(10, 2)[0], ((0,) * 3, (0,) * 10), ((1,) * 3, (0,) * 10), 300),
            threshold_case(10, 2, most=5),
        ]
        for case in wrong:
            for call in (fewest, least_causes, least_remedies):
                with self.assertRaises(NoCase):
                    call(case, 1)
            with self.assertRaises(NoCase):
                are_causes(case, [], 1)


class NothingKeptTest(unittest.TestCase, TellsAnew):
    def test_what_is_handed_in_is_as_it_was(self):
        for case in list(made_cases(range(80), 60)) + [threshold_case(5, 3)]:
            for call in (fewest, least_causes, least_remedies):
                self.tells_anew(call, case)
                self.tells_anew(call, case, 2000)
            self.tells_anew(are_causes, case, least_causes(case))
            self.tells_anew(are_causes, case, [["a", 1], []])

    def test_each_mix_is_a_list_of_its_own(self):
        case = threshold_case(5, 3)
        for told in (least_causes(case), least_remedies(case)):
            told[0].append("spoilt")
            self.assertNotIn("spoilt", [thing for mix in told[1:] for thing in mix])


if __name__ == "__main__":
    unittest.main()
