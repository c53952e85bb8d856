import unittest

from tests.helper import (
    TellsAnew, asked_in, busy_cases, case_of_ends, great_cases, least, lone_cases, made_cases, plan_of, subsets, threshold_case,
    unlike_otherwise, verdict_otherwise, verdicts_otherwise, weighed_case,
)
from twinstride.causes import least_causes, least_remedies
from twinstride.errors import NoCase, TooMany
from twinstride.evens import even
from twinstride.trees import tree

SOUND = ((1, 2, 3), (4, 5, 6))
FAULTY = ((2, 3, 4), (5, 6, 7))


def is_even(verdicts):
    """Whether each mix with a cause within it is a cause, by the verdicts of all mixes."""
    faulty = [frozenset(mix) for mix, verdict in verdicts.items() if verdict == "faulty"]
    rest = [frozenset(mix) for mix, verdict in verdicts.items() if verdict != "faulty"]
    return not any(cause < mix for cause in faulty for mix in rest)


def parity_case(many):
    """A case that goes wrong where an odd number of pieces is faulty; all of them, an odd number, are asked."""
    rows = [("put", "a", 0)] + [row for i in range(many) for row in (("take", "b", i), ("sum", "a", "a", "b"))]
    return plan_of(rows, m=2, many=many), ((0,) * 3, (0,) * many), ((0,) * 3, (1,) * many), 900


class EvenTest(unittest.TestCase):
    def odd_is_right(self, case, told):
        self.assertIs(type(told), tuple)
        self.assertEqual(len(told), 3)
        self.assertEqual(told[0], "odd")
        things = unlike_otherwise(*case[:3])
        for mix in told[1:]:
            self.assertIs(type(mix), list)
            self.assertEqual(mix, [thing for thing in things if thing in mix])
        one, other = told[1:]
        self.assertLess(set(one), set(other))
        self.assertEqual(verdict_otherwise(case, one), "faulty")
        self.assertIn(verdict_otherwise(case, other), ("sound", "other"))

    def told_is_right(self, case, wanted):
        told = even(case, 2000)
        if wanted:
            self.assertEqual(repr(told), "('even',)")
        else:
            self.odd_is_right(case, told)

    def test_by_hand(self):
        case = (plan_of([]), SOUND, FAULTY, 0)
        self.assertEqual(repr(even(case)), "('even',)")
        # b and c are summed: wrong with both, another mark with either; still each mix with the cause is one.
        self.told_is_right((plan_of([("sum", "a", "b", "c")]), SOUND, FAULTY, 9), True)
        # b mends what c breaks, unless piece 0 is faulty too.
        rows = [("if", "c", (("if", "b", (), (("put", "a", 1),)),), ())]
        rows += [("take", "c", 0), ("if", "c", (("put", "a", 1),), ())]
        case = (plan_of(rows), ((0, 0, 0), (0, 0, 0)), ((0, 1, 1), (1, 0, 0)), 9)
        self.assertEqual(even(case), ("odd", ["c"], ["b", "c"]))

    def test_another_mark_above_a_cause(self):
        # a is 0; b alone makes 1, b and c make 2, all make 1.
        rows = [("sum", "a", "b", "c"), ("take", "b", 0), ("if", "b", (("put", "a", 1),), ())]
        case = (plan_of(rows), ((0, 0, 0), (0, 0, 0)), ((0, 1, 1), (1, 0, 0)), 9)
        self.assertEqual(verdict_otherwise(case, ["b", "c"]), "other")
        told = even(case)
        self.odd_is_right(case, told)
        self.assertIn(told[1], (["b"], ["c"]))
        self.assertEqual(told[2], ["b", "c"])

    def test_a_dry_mix_above_a_cause(self):
        rows = [("sum", "a", "b", "c"), ("put", "b", 2), ("same", "b", "a", "b"), ("take", "c", 0)]
        rows += [("if", "c", (("put", "a", 1), ("put", "b", 0)), ()), ("again", "b", ())]
        case = (plan_of(rows), ((0, 0, 0), (0, 0, 0)), ((0, 1, 1), (1, 0, 0)), 30)
        self.odd_is_right(case, even(case))
        self.assertEqual(even(case)[2], ["b", "c"])

    def test_against_all_mixes(self):
        seen = {(truth, other): 0 for truth in (True, False) for other in (True, False)}
        for case in list(made_cases(range(250), 60)) + list(busy_cases(range(250))):
            verdicts = verdicts_otherwise(case)
            wanted = is_even(verdicts)
            self.told_is_right(case, wanted)
            seen[wanted, "other" in verdicts.values()] += 1
        self.assertGreater(min(seen.values()), 10, seen)

    def test_great_cases(self):
        odd = 0
        for case in great_cases(range(500)):
            asked = asked_in(tree(case, 2000))
            things = [thing for thing in unlike_otherwise(*case[:3]) if thing in asked]
            if len(things) <= 8:
                wanted = is_even(verdicts_otherwise(case, things))
                self.told_is_right(case, wanted)
                odd += not wanted
        self.assertGreater(odd, 3)

    def test_many_ends(self):
        self.told_is_right(threshold_case(10, 5), True)
        self.told_is_right(threshold_case(10, 1), True)
        self.told_is_right(parity_case(9), False)
        self.told_is_right(parity_case(1), True)
        for count in (1, 13, 52):
            for case, thing in lone_cases(count):
                self.assertEqual(even(case, 2), ("even",))


class MeetingTest(unittest.TestCase):
    def test_least_remedies_meet_each_cause(self):
        seen = 0
        cases = list(made_cases(range(250), 60)) + list(busy_cases(range(250))) + [threshold_case(6, 3)]
        for case in cases:
            verdicts = verdicts_otherwise(case)
            if even(case) == ("even",) and "other" not in verdicts.values():
                causes = [mix for mix, verdict in verdicts.items() if verdict == "faulty"]
                meeting = [mix for mix in subsets(unlike_otherwise(*case[:3])) if all(set(mix) & set(one) for one in causes)]
                self.assertEqual(least_remedies(case), least(meeting))
                least_ones = least_causes(case)
                again = [mix for mix in subsets(unlike_otherwise(*case[:3])) if all(set(mix) & set(one) for one in least_ones)]
                self.assertEqual(again, meeting)
                seen += len(least_ones) > 1
        self.assertGreater(seen, 10)


class RefusedTest(unittest.TestCase):
    def test_too_many(self):
        for case, ends in ((threshold_case(4, 2), 16), (parity_case(7), 128), (weighed_case(488), 2000)):
            self.assertEqual(even(case, ends), even(case, limit=2000))
            for limit in (1, ends - 1):
                with self.assertRaises(TooMany):
                    even(case, limit)
        with self.assertRaises(TooMany):
            even(weighed_case(489), 2000)
        with self.assertRaises(TooMany):
            even(case_of_ends(501))
        self.assertEqual(even(case_of_ends(500)), ("even",))

    def test_no_case_goes_first(self):
        wrong = [(plan_of([]), SOUND, SOUND, 30), (plan_of([("again", "a", ())]), SOUND, FAULTY, 30)]
        wrong.append(threshold_case(10, 2, most=5))
        for case in wrong:
            with self.assertRaises(NoCase):
                even(case, 1)


class NothingKeptTest(unittest.TestCase, TellsAnew):
    def test_what_is_handed_in_is_as_it_was(self):
        for case in list(made_cases(range(60), 60)) + list(busy_cases(range(60))):
            self.tells_anew(even, case)
            self.tells_anew(even, case, 2000)


if __name__ == "__main__":
    unittest.main()
