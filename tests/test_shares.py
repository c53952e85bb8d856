import unittest
from fractions import Fraction
from itertools import permutations
from math import factorial, gcd

from tests.helper import (
    TellsAnew, asked_in, busy_cases, case_of_ends, great_cases, lone_cases, made_cases, marked_otherwise, plan_of,
    threshold_case, unlike_otherwise, verdicts_otherwise, weighed_case,
)
from twinstride.errors import NoCase, TooMany
from twinstride.shares import mean_shares, shares
from twinstride.trees import tree

SOUND = ((1, 2, 3), (4, 5, 6))
FAULTY = ((2, 3, 4), (5, 6, 7))


def by_all_orders(case):
    """The shares, each order gone along by itself."""
    things = unlike_otherwise(*case[:3])
    verdicts = verdicts_otherwise(case)
    told = dict.fromkeys(things, 0)
    orders = list(permutations(things))
    for order in orders:
        mixes = [tuple(thing for thing in things if thing in order[:k]) for k in range(len(things) + 1)]
        truths = [int(verdicts[mix] == "faulty") for mix in mixes]
        for thing, ahead, behind in zip(order, truths, truths[1:]):
            told[thing] += behind - ahead
    return written({thing: Fraction(count, len(orders)) for thing, count in told.items()}, things)


def by_all_mixes(case, things):
    """The shares, by the mixes of these things, of which no others matter; in how many orders each stands ahead."""
    verdicts = verdicts_otherwise(case, things)
    n = len(things)
    told = dict.fromkeys(things, Fraction(0))
    for mix, verdict in verdicts.items():
        for thing in [thing for thing in things if thing not in mix]:
            more = tuple(one for one in things if one in mix or one == thing)
            step = int(verdicts[more] == "faulty") - int(verdict == "faulty")
            told[thing] += step * Fraction(factorial(len(mix)) * factorial(n - len(mix) - 1), factorial(n))
    return written(told, unlike_otherwise(*case[:3]))


def written(told, things):
    fractions = [(thing, told.get(thing, Fraction(0))) for thing in things]
    return [(thing, (share.numerator, share.denominator)) for thing, share in fractions]


class SharesTest(unittest.TestCase):
    def told_is(self, case, wanted, limit=500):
        told = shares(case, limit)
        self.assertEqual(repr(told), repr(wanted))
        self.assertEqual(sum(Fraction(*share) for _, share in told), 1)
        for _, (n, d) in told:
            self.assertGreater(d, 0)
            self.assertEqual(gcd(n, d), 1)

    def test_a_single_unlike_thing(self):
        self.told_is((plan_of([]), SOUND, ((2, 2, 3), SOUND[1]), 0), [("a", (1, 1))])

    def test_one_that_is_never_asked_has_none(self):
        told = [("a", (0, 1)), ("b", (0, 1)), ("c", (0, 1)), (0, (0, 1)), (1, (1, 1)), (2, (0, 1))]
        self.told_is((plan_of([("take", "a", 1)]), SOUND, FAULTY, 9), told)

    def test_like_things_share_alike(self):
        case = (plan_of([("by", "a", "b", "c")]), ((0, 0, 0), SOUND[1]), ((0, 1, 1), FAULTY[1]), 9)
        self.told_is(case, [("b", (1, 2)), ("c", (1, 2)), (0, (0, 1)), (1, (0, 1)), (2, (0, 1))])
        for many, needed in ((3, 1), (3, 2), (3, 3), (7, 4), (10, 3)):
            self.told_is(threshold_case(many, needed), [(piece, (1, many)) for piece in range(many)], 2 ** many)

    def test_of_three_two_are_needed_one_always(self):
        # Wrong with b and either of c and piece 0.
        rows = [("take", "a", 0), ("sum", "a", "a", "c"), ("by", "a", "a", "b"), ("if", "a", (("put", "a", 1),), ())]
        case = (plan_of(rows), ((0, 0, 0), (0, 5, 6)), ((0, 1, 1), (1, 5, 6)), 9)
        self.told_is(case, [("b", (2, 3)), ("c", (1, 6)), (0, (1, 6))])

    def test_shares_below_nought(self):
        # b mends what c breaks, unless piece 0 is faulty too.
        rows = [("if", "c", (("if", "b", (), (("put", "a", 1),)),), ())]
        rows += [("take", "c", 0), ("if", "c", (("put", "a", 1),), ())]
        case = (plan_of(rows), ((0, 0, 0), (0, 0, 0)), ((0, 1, 1), (1, 0, 0)), 9)
        self.told_is(case, [("b", (-1, 6)), ("c", (1, 3)), (0, (5, 6))])

    def test_against_all_orders(self):
        seen = {"below": 0, "unlike": 0, "nought": 0, "other": 0}
        for case in list(made_cases(range(250), 60)) + list(made_cases(range(150), 7)):
            if len(unlike_otherwise(*case[:3])) <= 6:
                wanted = by_all_orders(case)
                self.told_is(case, wanted)
                seen["other"] += "other" in verdicts_otherwise(case).values()
                seen["nought"] += (0, 1) in [share for _, share in wanted]
        for case in busy_cases(range(150)):
            wanted = by_all_mixes(case, unlike_otherwise(*case[:3]))
            self.told_is(case, wanted)
            seen["below"] += any(n < 0 for _, (n, _) in wanted)
            seen["unlike"] += len({share for _, share in wanted}) > 2
        self.assertGreater(min(seen.values()), 10, seen)

    def test_both_other_ways_agree(self):
        for case in list(made_cases(range(60), 60)):
            things = unlike_otherwise(*case[:3])
            if len(things) <= 5:
                self.assertEqual(by_all_orders(case), by_all_mixes(case, things))

    def test_great_cases(self):
        several = 0
        for case in great_cases(range(400)):
            asked = asked_in(tree(case, 2000))
            things = [thing for thing in unlike_otherwise(*case[:3]) if thing in asked]
            if len(things) <= 7:
                wanted = by_all_mixes(case, things)
                self.told_is(case, wanted)
                several += len(things) > 2
        self.assertGreater(several, 10)

    def test_lone_things(self):
        for count in (1, 13, 52):
            for case, thing in lone_cases(count):
                wanted = [(one, (int(one == thing), 1)) for one in unlike_otherwise(*case[:3])]
                self.told_is(case, wanted)

    def test_fifty_two_asked_one_behind_the_other(self):
        # Wrong where any of fifty-two is faulty: all share alike, by fifty-three ends.
        names = tuple("abcdefghijkl")
        rows = [("if", "l", (("put", "b", 1),), ())]
        rows += [("if", "b", (), (("if", name, (("put", "b", 1),), ()),)) for name in "acdefghijk"]
        loop = (
            ("pick", "b", "l"), ("sum", "l", "l", "c"), ("same", "d", "l", "e"),
            ("if", "b", (("put", "f", 0),), (("if", "d", (("put", "f", 0),), ()),)),
        )
        rows += [("if", "b", (), (("put", "c", 1), ("put", "l", 0), ("put", "e", 40), ("put", "f", 1), ("again", "f", loop)))]
        plan = (997, names, 40, tuple(rows), "b")
        case = (plan, ((0,) * 12, (0,) * 40), ((1,) * 12, (1,) * 40), 3000)
        things = unlike_otherwise(*case[:3])
        self.assertEqual(len(things), 52)
        self.assertEqual(len(asked_in(tree(case, 53))), 52)
        self.told_is(case, [(thing, (1, 52)) for thing in things], 53)


class RefusedTest(unittest.TestCase):
    def test_too_many(self):
        for case, ends in ((threshold_case(1, 1), 2), (threshold_case(5, 2), 32), (weighed_case(488), 2000)):
            for call in (shares, lambda case, limit=500: mean_shares([case], limit)):
                self.assertEqual(call(case, ends), call(case, limit=2000))
                for limit in (1, ends - 1):
                    with self.assertRaises(TooMany):
                        call(case, limit)
        for call in (lambda: shares(threshold_case(9, 2)), lambda: mean_shares([threshold_case(9, 2)])):
            with self.assertRaises(TooMany):
                call()
        self.assertEqual(len(shares(case_of_ends(500))), 9)
        self.assertEqual(len(mean_shares([case_of_ends(500)])), 9)
        with self.assertRaises(TooMany):
            shares(case_of_ends(501))
        with self.assertRaises(TooMany):
            mean_shares([case_of_ends(500), case_of_ends(501)])

    def test_no_case_goes_first(self):
        wrong = [(plan_of([]), SOUND, SOUND, 30), (plan_of([("again", "a", ())]), SOUND, FAULTY, 30)]
        wrong.append(threshold_case(10, 2, most=5))
        for case in wrong:
            with self.assertRaises(NoCase):
                shares(case, 1)
            for cases in ([case], [case, case], [case, threshold_case(5, 2)], [threshold_case(5, 2), case]):
                with self.assertRaises(NoCase):
                    mean_shares(cases, 1)


class MeanSharesTest(unittest.TestCase):
    # Wrong with b and either of c and piece 0, as told above.
    ROWS = [("take", "a", 0), ("sum", "a", "a", "c"), ("by", "a", "a", "b"), ("if", "a", (("put", "a", 1),), ())]
    PLAN = plan_of(ROWS)
    ONE = (PLAN, ((0, 0, 0), (0, 5, 6)), ((0, 1, 1), (1, 5, 6)), 9)
    # Here b alone matters.
    OTHER = (PLAN, ((1, 0, 1), (1, 6, 6)), ((1, 1, 2), (3, 6, 6)), 30)

    def mean(self, cases):
        held = [by_all_orders(case) for case in cases]
        told = {}
        for share_list in held:
            for thing, share in share_list:
                told[thing] = told.get(thing, 0) + Fraction(*share) / len(cases)
        return written(told, [thing for thing, _ in held[0]])

    def test_one_case(self):
        for case in list(made_cases(range(60), 60)):
            self.assertEqual(repr(mean_shares([case])), repr(shares(case)))

    def test_several(self):
        for cases in ([self.ONE] * 2, [self.ONE, self.OTHER], [self.OTHER, self.ONE], [self.ONE, self.OTHER, self.ONE], [self.OTHER] * 7):
            told = mean_shares(cases)
            self.assertEqual(repr(told), repr(self.mean(cases)))
            self.assertEqual(sum(Fraction(*share) for _, share in told), 1)
        self.assertNotEqual(shares(self.ONE), shares(self.OTHER))

    def test_unlike_mosts(self):
        least = self.ONE[:3] + (5,)
        self.assertEqual(mean_shares([self.ONE, least]), shares(self.ONE))
        self.assertEqual(mean_shares([least, self.OTHER]), self.mean([self.ONE, self.OTHER]))

    def test_made_cases(self):
        several = 0
        for case in busy_cases(range(80)):
            plan, sound, faulty, most = case
            others = [(plan, faulty, sound, most)]
            for shift in range(1, plan[0]):
                stands = [tuple(tuple((n + shift) % plan[0] for n in part) for part in stand) for stand in (sound, faulty)]
                marks = [marked_otherwise(plan, stand, most) for stand in stands]
                if None not in marks and marks[0] != marks[1]:
                    others.append((plan, *stands, most))
            cases = [case] + others
            things = unlike_otherwise(*case[:3])
            held = [dict(by_all_mixes(one, things)) for one in cases]
            wanted = {thing: sum(Fraction(*part[thing]) for part in held) / len(cases) for thing in things}
            self.assertEqual(repr(mean_shares(cases)), repr(written(wanted, things)))
            several += held[0] != held[-1]
        self.assertGreater(several, 5)

    def test_unlike_plans(self):
        for plan in (
            plan_of(self.ROWS + [("put", "b", 1)]), plan_of(self.ROWS, m=11), plan_of(self.ROWS, names=("a", "b", "c", "d")),
            plan_of(self.ROWS, many=4),
        ):
            more = len(plan[1]) - 3
            stands = [(stand[0] + (0,) * more, stand[1] + (0,) * (plan[2] - 3)) for stand in self.ONE[1:3]]
            other = (plan, *stands, 30)
            self.assertEqual(shares(other), shares(self.ONE))
            for cases in ([self.ONE, other], [other, self.ONE], [self.ONE, self.ONE, other]):
                with self.assertRaises(NoCase):
                    mean_shares(cases)

    def test_unlike_unlike_things(self):
        for stand in (((1, 1, 1), (1, 5, 6)), ((0, 1, 1), (1, 6, 6)), ((0, 1, 1), (0, 5, 6))):
            other = self.ONE[:2] + (stand, 9)
            self.assertEqual(marked_otherwise(self.PLAN, stand, 9), 1)
            for cases in ([self.ONE, other], [other, self.ONE], [self.OTHER, self.ONE, other]):
                with self.assertRaises(NoCase):
                    mean_shares(cases)

    def test_too_many_goes_ahead_of_unlike_ones(self):
        few = threshold_case(3, 2)
        many = threshold_case(5, 2)
        for cases in ([few, many], [many, few], [few, self.ONE, many], [many, self.ONE, few]):
            with self.assertRaises(TooMany):
                mean_shares(cases, 31)
            with self.assertRaises(NoCase):
                mean_shares(cases, 32)

    def test_no_case_goes_ahead_of_too_many(self):
        wrong = (plan_of([]), SOUND, SOUND, 30)
        for cases in ([wrong, threshold_case(9, 2)], [threshold_case(9, 2), wrong]):
            with self.assertRaises(NoCase):
                mean_shares(cases)


class NothingKeptTest(unittest.TestCase, TellsAnew):
    def test_what_is_handed_in_is_as_it_was(self):
        for case in list(made_cases(range(60), 60)):
            self.tells_anew(shares, case)
            self.tells_anew(mean_shares, [case, case, case])


if __name__ == "__main__":
    unittest.main()
