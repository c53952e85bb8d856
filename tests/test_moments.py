import unittest

from tests.helper import (
    TellsAnew, all_mixes, busy_cases, case_of_ends, made_cases, made_plan, marked_otherwise, plan_of, run_otherwise,
    stand_otherwise, subsets, threshold_case, unlike_otherwise, verdicts_otherwise, within,
)
from twinstride.errors import NoCase, NoMoment, TooMany
from twinstride.mixes import marks
from twinstride.moments import causes_at, later, makes_fault, narrow, stand_at
from twinstride.plans import is_plan

SOUND = ((1, 2, 3), (4, 5, 6))
FAULTY = ((2, 3, 4), (5, 6, 7))
# Each way round: b and c are summed, doubled by an again, and held against piece 1.
ROWS = (
    ("sum", "a", "b", "c"),
    ("if", "b", (("put", "b", 2), ("put", "c", 9)), (("put", "b", 0),)),
    ("again", "b", (("sum", "a", "a", "a"), ("sum", "b", "b", "c"))),
    ("take", "b", 1),
    ("less", "a", "a", "b"),
)


def later_otherwise(plan, k):
    m, names, many, rows, mark = plan
    return (m, names, many, tuple(row for j, row in enumerate(rows) if j >= k), mark)


def stand_otherwise_at(plan, stand, most, k):
    m, names, many, rows, mark = plan
    ahead = (m, names, many, tuple(row for j, row in enumerate(rows) if j < k), mark)
    return run_otherwise(ahead, stand, most)[1], stand[1]


def case_otherwise_at(case, k):
    plan, sound, faulty, most = case
    stands = [stand_otherwise_at(plan, stand, most, k) for stand in (sound, faulty)]
    return (later_otherwise(plan, k), *stands, most)


def fewest_otherwise(case):
    """The fewest cause, by all mixes one by one."""
    verdicts = verdicts_otherwise(case)
    things = unlike_otherwise(*case[:3])
    causes = [list(mix) for mix, verdict in verdicts.items() if verdict == "faulty"]
    return min(causes, key=lambda mix: (len(mix), [things.index(thing) for thing in mix]))


def moments(plan):
    return range(len(plan[3]) + 1)


class LaterTest(unittest.TestCase):
    def test_each_moment(self):
        plan = plan_of(ROWS)
        self.assertEqual(later(plan, 0), plan)
        self.assertEqual(later(plan, 2), plan_of(ROWS[2:]))
        self.assertEqual(later(plan, 5), plan_of(()))
        for k in moments(plan):
            self.assertEqual(repr(later(plan, k)), repr(later_otherwise(plan, k)))
            self.assertTrue(is_plan(later(plan, k)))

    def test_no_such_moment(self):
        for plan in (plan_of(ROWS), plan_of(()), plan_of(within(4))):
            n = len(plan[3])
            for k in (-1, -n - 1, -60, n + 1, n + 2, 61, 10 ** 59, -(10 ** 59)):
                with self.assertRaises(NoMoment):
                    later(plan, k)

    def test_a_plan_without_rows(self):
        self.assertEqual(later(plan_of(()), 0), plan_of(()))

    def test_only_rows_at_the_top_count(self):
        plan = plan_of(within(4, (("put", "a", 1),) * 9))
        self.assertEqual(later(plan, 0), plan)
        self.assertEqual(later(plan, 1), plan_of(()))
        with self.assertRaises(NoMoment):
            later(plan, 2)

    def test_made_plans(self):
        for seed in range(100):
            plan, _ = made_plan(seed)
            for k in moments(plan):
                self.assertEqual(repr(later(plan, k)), repr(later_otherwise(plan, k)))


class StandAtTest(unittest.TestCase):
    def test_by_hand(self):
        plan = plan_of(ROWS)
        told = [((1, 2, 3), (4, 5, 6)), ((5, 2, 3), (4, 5, 6)), ((5, 2, 9), (4, 5, 6)), ((0, 0, 9), (4, 5, 6))]
        told += [((0, 5, 9), (4, 5, 6)), ((1, 5, 9), (4, 5, 6))]
        self.assertEqual([stand_at(plan, SOUND, 30, k) for k in moments(plan)], told)

    def test_no_such_moment(self):
        for plan in (plan_of(ROWS), plan_of(())):
            for k in (-1, -2, -6, len(plan[3]) + 1, len(plan[3]) + 2, 10 ** 59):
                with self.assertRaises(NoMoment):
                    stand_at(plan, SOUND, 3000, k)

    def test_a_plan_without_rows(self):
        self.assertEqual(stand_at(plan_of(()), SOUND, 0, 0), SOUND)
        self.assertEqual(stand_at(plan_of((), many=0), ((1, 2, 3), ()), 0, 0), ((1, 2, 3), ()))

    def test_a_dry_run_has_no_moments(self):
        plan = plan_of(ROWS)
        steps = len(run_otherwise(plan, SOUND, 3000)[0])
        self.assertEqual(stand_at(plan, SOUND, steps, 1), ((5, 2, 3), (4, 5, 6)))
        for k in (-1, 0, 1, 2, 3, 4, 5, 6):
            for most in (0, 1, 2, steps - 1):
                with self.assertRaises(NoMoment):
                    stand_at(plan, SOUND, most, k)
        forever = plan_of((("put", "b", 1), ("again", "b", ()), ("put", "b", 1)))
        for k in range(4):
            with self.assertRaises(NoMoment):
                stand_at(forever, SOUND, 3000, k)

    def test_made_plans(self):
        dry = 0
        for seed in range(200):
            plan, stand = made_plan(seed)
            steps, end = run_otherwise(plan, stand, 60)
            for k in moments(plan):
                if end is None:
                    dry += 1
                    with self.assertRaises(NoMoment):
                        stand_at(plan, stand, 60, k)
                else:
                    wanted = stand_otherwise_at(plan, stand, 60, k)
                    self.assertEqual(repr(stand_at(plan, stand, 60, k)), repr(wanted))
                    self.assertEqual(stand_at(plan, stand, len(steps), k), wanted)
        self.assertGreater(dry, 20)

    def test_the_stands_of_a_case_are_a_case_of_the_later_plan(self):
        for case in made_cases(range(150), 60):
            plan, sound, faulty, most = case
            for k in moments(plan):
                there = (later(plan, k), stand_at(plan, sound, most, k), stand_at(plan, faulty, most, k), most)
                self.assertEqual(marks(there), marks(case))


class CausesAtTest(unittest.TestCase):
    def test_by_hand(self):
        case = (plan_of([("sum", "a", "b", "c"), ("put", "b", 7), ("less", "b", "a", "b")], mark="b"), SOUND, ((1, 5, 4), SOUND[1]), 9)
        self.assertEqual(repr(causes_at(case)), "[['b'], ['a'], ['a'], ['b']]")
        case = (plan_of([("by", "a", "b", "c"), ("take", "c", 0), ("sum", "b", "a", "c")], mark="b"), SOUND, FAULTY, 9)
        told = causes_at(case)
        self.assertEqual(told, [["b", "c", 0], ["a", 0], ["a", "c"], ["b"]])

    def test_a_plan_without_rows(self):
        self.assertEqual(causes_at((plan_of((), mark="c"), SOUND, FAULTY, 0)), [["c"]])

    def test_against_all_mixes(self):
        several = 0
        for case in list(made_cases(range(150), 60)) + list(busy_cases(range(60))):
            told = causes_at(case)
            wanted = [fewest_otherwise(case_otherwise_at(case, k)) for k in moments(case[0])]
            self.assertEqual(repr(told), repr(wanted))
            self.assertEqual(told[-1], [case[0][4]])
            several += len({len(cause) for cause in told}) > 1
        self.assertGreater(several, 10)

    def test_too_many(self):
        # The tree is greatest at the first moment, when four pieces are still to be read.
        case = threshold_case(4, 2)
        wanted = causes_at(case, 16)
        self.assertEqual(causes_at(case), wanted)
        self.assertEqual(causes_at(case, limit=2000), wanted)
        for call in (lambda limit: causes_at(case, limit), lambda limit: narrow(case, 2, limit)):
            for limit in (1, 2, 8, 15):
                with self.assertRaises(TooMany):
                    call(limit)
        with self.assertRaises(TooMany):
            causes_at(case_of_ends(501))
        with self.assertRaises(TooMany):
            narrow(case_of_ends(501), 1)
        self.assertEqual(len(causes_at(case_of_ends(500))), 21)
        self.assertEqual(len(narrow(case_of_ends(500), 9)), 21)
        self.assertEqual(len(causes_at(threshold_case(9, 2), 512)), 22)

    def test_too_many_at_a_later_moment_alone(self):
        # One unlike name makes three, so that there are more things to ask behind the first rows.
        rows = [("sum", "b", "a", "a"), ("sum", "c", "a", "b"), ("sum", "a", "a", "b"), ("sum", "a", "a", "c")]
        case = (plan_of(rows), SOUND, ((2, 2, 3), SOUND[1]), 9)
        self.assertEqual(causes_at(case, 8)[0], ["a"])
        ends = 8
        self.assertEqual(causes_at(case, ends), causes_at(case))
        self.assertEqual(len(causes_at(case)[2]), 3)
        for limit in (2, 4, 7):
            with self.assertRaises(TooMany):
                causes_at(case, limit)

    def test_no_case_goes_first(self):
        wrong = [(plan_of([]), SOUND, SOUND, 30), (plan_of([("again", "a", ())]), SOUND, FAULTY, 30)]
        wrong.append(threshold_case(10, 2, most=5))
        for case in wrong:
            with self.assertRaises(NoCase):
                causes_at(case, 1)
            with self.assertRaises(NoCase):
                narrow(case, 1, 1)
            for k in (-1, 0, 1, 99):
                with self.assertRaises(NoCase):
                    makes_fault(case, k, [])


class NarrowTest(unittest.TestCase):
    def test_by_hand(self):
        case = (plan_of([("by", "a", "b", "c"), ("take", "c", 0), ("sum", "b", "a", "c")], mark="b"), SOUND, FAULTY, 9)
        told = {0: [], 1: [3], 2: [1, 2, 3], 3: [0, 1, 2, 3], 52: [0, 1, 2, 3], 10 ** 59: [0, 1, 2, 3]}
        for number, wanted in told.items():
            self.assertEqual(repr(narrow(case, number)), repr(wanted))

    def test_against_causes_at(self):
        for case in list(made_cases(range(80), 60)) + [threshold_case(6, 3)]:
            told = causes_at(case)
            for number in range(6):
                wanted = [k for k in moments(case[0]) if len(told[k]) <= number]
                self.assertEqual(narrow(case, number), wanted)
                self.assertEqual(narrow(case, number, 2000), wanted)
            self.assertEqual(narrow(case, 0), [])
            self.assertIn(len(case[0][3]), narrow(case, 1))


class MakesFaultTest(unittest.TestCase):
    def test_by_hand(self):
        case = (plan_of([("by", "a", "b", "c"), ("take", "c", 0), ("sum", "b", "a", "c")], mark="b"), SOUND, FAULTY, 9)
        for k, things, wanted in (
            (0, [], False), (0, ["b", "c", 0], True), (0, ["a", "b", "c", 0, 1, 2], True), (0, ["b", "c"], False),
            (1, ["a", 0], True), (1, ["a"], False), (1, [0], False), (1, ["b", "c", 1, 2], False), (1, [0, "a"], True),
            (2, ["a", "c"], True), (2, ["c"], False), (2, [0], False), (3, ["b"], True), (3, ["a", "c", 0], False),
            (3, [], False),
        ):
            self.assertIs(makes_fault(case, k, things), wanted, (k, things))

    def test_alike_things_make_no_matter(self):
        case = (plan_of([("sum", "a", "b", "c")]), SOUND, ((1, 3, 3), SOUND[1]), 9)
        for things in ([], ["a"], ["c"], [0, 1, 2], ["a", "c", 2]):
            self.assertIs(makes_fault(case, 0, things), False)
            self.assertIs(makes_fault(case, 0, things + ["b"]), True)
        self.assertIs(makes_fault(case, 1, ["a"]), True)
        self.assertIs(makes_fault(case, 1, ["b", "c"]), False)

    def test_another_mark_is_not_the_faulty_one(self):
        case = (plan_of([("sum", "a", "b", "c")]), SOUND, FAULTY, 9)
        self.assertIs(makes_fault(case, 0, ["b"]), False)
        self.assertIs(makes_fault(case, 0, ["b", "c"]), True)

    def test_a_dry_run_makes_none(self):
        rows = [("sum", "a", "b", "c"), ("put", "b", 6), ("same", "b", "a", "b"), ("again", "b", ())]
        case = (plan_of(rows), ((0, 1, 3), (0, 0, 0)), ((0, 2, 5), (0, 0, 0)), 30)
        self.assertIs(makes_fault(case, 0, ["c"]), False)
        self.assertIs(makes_fault(case, 0, ["b", "c"]), True)

    def test_no_such_moment(self):
        case = (plan_of([("sum", "a", "b", "c")]), SOUND, FAULTY, 9)
        for k in (-1, -2, 2, 3, 10 ** 59):
            with self.assertRaises(NoMoment):
                makes_fault(case, k, ["b"])

    def test_things_of_every_sort_at_each_moment(self):
        seen = {True: 0, False: 0}
        for case in list(made_cases(range(60), 60)) + list(busy_cases(range(25))):
            plan, _, faulty, most = case
            things = list(plan[1]) + list(range(plan[2]))
            for k in moments(plan):
                there = case_otherwise_at(case, k)
                for mix in subsets(things)[:: 1 + len(things) ** 2 // 8]:
                    mark = marked_otherwise(there[0], stand_otherwise(there, mix), most)
                    wanted = mark == marked_otherwise(plan, faulty, most)
                    self.assertIs(makes_fault(case, k, list(mix)), wanted)
                    self.assertIs(makes_fault(case, k, list(mix)[::-1]), wanted)
                    seen[wanted] += 1
                self.assertIs(makes_fault(case, k, things), True)
                self.assertIs(makes_fault(case, k, []), False)
        self.assertGreater(min(seen.values()), 100)

    def test_the_fewest_cause_makes_the_fault(self):
        for case in made_cases(range(60), 60):
            for k, cause in enumerate(causes_at(case)):
                self.assertIs(makes_fault(case, k, cause), True)
                for at in range(len(cause)):
                    self.assertIs(makes_fault(case, k, cause[:at] + cause[at + 1:]), False)


class NothingKeptTest(unittest.TestCase, TellsAnew):
    def test_what_is_handed_in_is_as_it_was(self):
        for case in list(made_cases(range(30), 60)):
            plan, sound, _, most = case
            self.tells_anew(causes_at, case)
            self.tells_anew(narrow, case, 2)
            for k in moments(plan):
                self.tells_anew(later, plan, k)
                self.tells_anew(stand_at, plan, sound, most, k)
                for mix in all_mixes(case)[:4]:
                    self.tells_anew(makes_fault, case, k, mix)

    def test_each_cause_is_a_list_of_its_own(self):
        case = (plan_of([("put", "b", 1)] * 3), SOUND, FAULTY, 9)
        told = causes_at(case)
        self.assertEqual(told, [["a"]] * 4)
        told[0].append("spoilt")
        self.assertEqual(told[1:], [["a"]] * 3)


if __name__ == "__main__":
    unittest.main()
