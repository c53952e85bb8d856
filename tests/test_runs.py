import copy
import unittest

from tests.helper import made_plan, plan_of, run_otherwise, within
from twinstride.plans import is_plan
from twinstride.runs import mark, run

STAND = ((4, 7, 0), (5, 6, 8))


class RunsTest(unittest.TestCase):
    def told(self, rows, steps, end, stand=STAND, most=3000, m=10):
        plan = plan_of(rows, m=m)
        self.assertTrue(is_plan(plan))
        self.assertEqual(repr(run(plan, stand, most)), repr((steps, end)))


class EachRowTest(RunsTest):
    def test_no_rows(self):
        self.told([], [], (4, 7, 0))
        self.assertEqual(run((2, ("x",), 0, (), "x"), ((1,), ()), 3000), ([], (1,)))

    def test_put(self):
        self.told([("put", "b", 0)], [((0,), 0)], (4, 0, 0))
        self.told([("put", "c", 9)], [((0,), 9)], (4, 7, 9))

    def test_take(self):
        self.told([("take", "a", 0)], [((0,), 5)], (5, 7, 0))
        self.told([("take", "c", 2)], [((0,), 8)], (4, 7, 8))

    def test_pick(self):
        self.told([("pick", "b", "a")], [((0,), 6)], (4, 6, 0))
        self.told([("pick", "a", "c")], [((0,), 5)], (5, 7, 0))
        self.told([("put", "c", 8), ("pick", "a", "c")], [((0,), 8), ((1,), 8)], (8, 7, 8))
        self.told([("put", "c", 3), ("pick", "a", "c")], [((0,), 3), ((1,), 5)], (5, 7, 3))

    def test_pick_of_itself(self):
        self.told([("pick", "b", "b"), ("pick", "b", "b")], [((0,), 6), ((1,), 5)], (4, 5, 0))

    def test_sum_round_the_wheel(self):
        self.told([("sum", "c", "a", "b")], [((0,), 1)], (4, 7, 1))
        self.told([("sum", "c", "a", "b")], [((0,), 11)], (4, 7, 11), m=12)
        self.told([("sum", "c", "a", "b")], [((0,), 0)], (4, 7, 0), m=11)

    def test_by_round_the_wheel(self):
        self.told([("by", "c", "a", "b")], [((0,), 8)], (4, 7, 8))
        self.told([("by", "c", "a", "b")], [((0,), 0)], (4, 7, 0), m=28)
        self.told([("by", "c", "a", "b")], [((0,), 28)], (4, 7, 28), m=29)
        self.told([("by", "a", "b", "b")], [((0,), 1)], (1, 996, 0), stand=((0, 996, 0), (0, 0, 0)), m=997)

    def test_less(self):
        self.told([("less", "c", "a", "b")], [((0,), 1)], (4, 7, 1))
        self.told([("less", "c", "b", "a")], [((0,), 0)], (4, 7, 0))
        self.told([("less", "c", "a", "a")], [((0,), 0)], (4, 7, 0))

    def test_same(self):
        self.told([("same", "c", "a", "b")], [((0,), 0)], (4, 7, 0))
        self.told([("same", "c", "a", "b")], [((0,), 1)], (7, 7, 1), stand=((7, 7, 0), (5, 6, 8)))
        self.told([("same", "c", "b", "a")], [((0,), 0)], (4, 7, 0))

    def test_one_and_the_same_name(self):
        self.told([("sum", "b", "b", "b")], [((0,), 4)], (4, 4, 0))
        self.told([("by", "b", "b", "b")], [((0,), 9)], (4, 9, 0))
        self.told([("less", "b", "b", "b")], [((0,), 0)], (4, 0, 0))
        self.told([("same", "b", "b", "b")], [((0,), 1)], (4, 1, 0))
        self.told([("sum", "b", "a", "b")], [((0,), 1)], (4, 1, 0))
        self.told([("less", "a", "a", "b")], [((0,), 1)], (1, 7, 0))

    def test_rows_one_behind_the_other(self):
        rows = [("take", "a", 1), ("sum", "b", "a", "a"), ("by", "c", "a", "b"), ("put", "a", 3)]
        self.told(rows, [((0,), 6), ((1,), 2), ((2,), 2), ((3,), 3)], (3, 2, 2))

    def test_the_wheel_of_two(self):
        stand = ((1, 1, 0), (1, 0, 1))
        self.told([("sum", "c", "a", "b"), ("by", "c", "a", "b")], [((0,), 0), ((1,), 1)], (1, 1, 1), stand=stand, m=2)


class IfTest(RunsTest):
    ROWS = [("put", "c", 2), ("if", "a", (("put", "b", 1), ("put", "b", 2)), (("put", "b", 3), ("put", "b", 4)))]

    def test_first_rows(self):
        self.told(self.ROWS, [((0,), 2), ((1,), 1), ((1, 1, 0), 1), ((1, 1, 1), 2)], (4, 2, 2))

    def test_second_rows(self):
        steps = [((0,), 2), ((1,), 0), ((1, 0, 0), 3), ((1, 0, 1), 4)]
        self.told(self.ROWS, steps, (0, 4, 2), stand=((0, 7, 0), (5, 6, 8)))

    def test_a_look_is_one_whatever_the_number(self):
        for number in (1, 2, 9):
            self.told([("if", "a", (), ())], [((0,), 1)], (number, 7, 0), stand=((number, 7, 0), (5, 6, 8)))

    def test_no_rows_on_the_side_done(self):
        self.told([("if", "a", (), (("put", "a", 1),))], [((0,), 1)], (4, 7, 0))
        self.told([("if", "c", (("put", "a", 1),), ())], [((0,), 0)], (4, 7, 0))

    def test_only_one_side_is_done_though_x_changes(self):
        self.told([("if", "a", (("put", "a", 0),), (("put", "b", 1),))], [((0,), 1), ((0, 1, 0), 0)], (0, 7, 0))
        self.told([("if", "c", (("put", "b", 1),), (("put", "c", 1),))], [((0,), 0), ((0, 0, 0), 1)], (4, 7, 1))

    def test_within_one_another(self):
        rows = [("if", "a", (("put", "b", 1), ("if", "c", (("put", "b", 2),), (("put", "a", 3), ("put", "c", 4)))), ())]
        steps = [((0,), 1), ((0, 1, 0), 1), ((0, 1, 1), 0), ((0, 1, 1, 0, 0), 3), ((0, 1, 1, 0, 1), 4)]
        self.told(rows, steps, (3, 1, 4))

    def test_four_within_one_another(self):
        rows = ("put", "b", 5),
        for _ in range(4):
            rows = ("if", "a", rows, ()),
        steps = [((0,), 1), ((0, 1, 0), 1), ((0, 1, 0, 1, 0), 1), ((0, 1, 0, 1, 0, 1, 0), 1)]
        self.told(rows, steps + [((0, 1, 0, 1, 0, 1, 0, 1, 0), 5)], (4, 5, 0))


class AgainTest(RunsTest):
    # The row that makes c one less, on a wheel of ten, needs a nine in b.
    LESS = ("sum", "c", "c", "b")

    def stand(self, c):
        return ((4, 9, c), (5, 6, 8))

    def test_no_round(self):
        self.told([("again", "c", (self.LESS,))], [((0, 0), 0)], (4, 9, 0), stand=self.stand(0))

    def test_one_round(self):
        steps = [((0, 0), 1), ((0, 0, 0), 0), ((0, 1), 0)]
        self.told([("again", "c", (self.LESS,))], steps, (4, 9, 0), stand=self.stand(1))

    def test_several_rounds(self):
        rows = [("put", "a", 0), ("again", "c", (self.LESS, ("sum", "a", "a", "b"))), ("put", "b", 1)]
        steps = [
            ((0,), 0),
            ((1, 0), 1), ((1, 0, 0), 2), ((1, 0, 1), 9),
            ((1, 1), 1), ((1, 1, 0), 1), ((1, 1, 1), 8),
            ((1, 2), 1), ((1, 2, 0), 0), ((1, 2, 1), 7),
            ((1, 3), 0),
            ((2,), 1),
        ]
        self.told(rows, steps, (7, 1, 0), stand=self.stand(3))

    def test_a_round_is_done_to_its_end(self):
        rows = [("again", "a", (("put", "a", 0), ("put", "c", 6)))]
        self.told(rows, [((0, 0), 1), ((0, 0, 0), 0), ((0, 0, 1), 6), ((0, 1), 0)], (0, 7, 6))

    def test_one_within_another(self):
        rows = [("again", "c", (("put", "a", 2), ("again", "a", (("sum", "a", "a", "b"),)), self.LESS))]
        steps = []
        for turn, left in ((0, 1), (1, 0)):
            at = (0, turn)
            steps += [(at, 1), (at + (0,), 2)]
            steps += [(at + (1, 0), 1), (at + (1, 0, 0), 1), (at + (1, 1), 1), (at + (1, 1, 0), 0), (at + (1, 2), 0)]
            steps += [(at + (2,), left)]
        self.told(rows, steps + [((0, 2), 0)], (0, 9, 0), stand=self.stand(2))

    def test_an_if_within(self):
        rows = [("again", "c", (self.LESS, ("if", "c", (("put", "a", 1),), (("put", "a", 0),))))]
        steps = [
            ((0, 0), 1), ((0, 0, 0), 1), ((0, 0, 1), 1), ((0, 0, 1, 1, 0), 1),
            ((0, 1), 1), ((0, 1, 0), 0), ((0, 1, 1), 0), ((0, 1, 1, 0, 0), 0),
            ((0, 2), 0),
        ]
        self.told(rows, steps, (0, 9, 0), stand=self.stand(2))

    def test_within_an_if(self):
        rows = [("if", "a", (("put", "b", 9), ("again", "c", (self.LESS,))), ())]
        steps = [((0,), 1), ((0, 1, 0), 9), ((0, 1, 1, 0), 1), ((0, 1, 1, 0, 0), 0), ((0, 1, 1, 1), 0)]
        self.told(rows, steps, (4, 9, 0), stand=self.stand(1))


class MostTest(RunsTest):
    # Eight steps from STAND.
    ROWS = [("put", "c", 2), ("put", "b", 9), ("again", "c", (("sum", "c", "c", "b"),)), ("if", "c", (), ())]
    STEPS = [((0,), 2), ((1,), 9), ((2, 0), 1), ((2, 0, 0), 1), ((2, 1), 1), ((2, 1, 0), 0), ((2, 2), 0), ((3,), 0)]

    def test_just_as_many(self):
        self.told(self.ROWS, self.STEPS, (4, 9, 0), most=8)
        self.told(self.ROWS, self.STEPS, (4, 9, 0), most=9)

    def test_each_most_below(self):
        for most in range(8):
            self.told(self.ROWS, self.STEPS[:most], None, most=most)

    def test_no_rows_at_a_most_of_none(self):
        self.told([], [], (4, 7, 0), most=0)

    def test_each_sort_of_row_at_a_most_of_none(self):
        for row in (("put", "a", 1), ("take", "a", 1), ("if", "a", (), ()), ("again", "c", ())):
            self.told([row], [], None, most=0)

    def test_an_again_that_never_ends(self):
        steps = [((0, number), 1) for number in range(3000)]
        self.told([("again", "a", ())], steps, None, most=3000)
        self.told([("again", "a", ())], steps[:2999], None, most=2999)
        steps = [((0,), 4)] + [((1, number // 2, 0)[: 2 + number % 2], 1) for number in range(2999)]
        self.told([("put", "b", 4), ("again", "a", (("put", "a", 1),))], steps, None, most=3000)

    def test_three_thousand_steps_and_one_more(self):
        # 2 + 1 + 3 * 996 steps on the wheel of 997, and then some.
        rows = [("put", "b", 996), ("put", "a", 996), ("again", "a", (("sum", "a", "a", "b"), ("put", "c", 1)))]
        for more, end in ((9, (0, 996, 1)), (10, None)):
            plan = plan_of(rows + [("put", "c", 1)] * more, m=997)
            told = run(plan, ((0, 0, 0), (0, 0, 0)), 3000)
            self.assertEqual(len(told[0]), 3000)
            self.assertEqual(told[1], end)


class MarkTest(unittest.TestCase):
    def test_of_each_name(self):
        rows = [("put", "c", 9)]
        for name, number in (("a", 4), ("b", 7), ("c", 9)):
            self.assertEqual(repr(mark(plan_of(rows, mark=name), STAND, 3000)), repr(number))

    def test_names_in_another_order(self):
        plan = plan_of([("put", "a", 9)], names=("c", "a", "b"), mark="b")
        self.assertEqual(mark(plan, STAND, 3000), 0)

    def test_none_where_it_is_dry(self):
        plan = plan_of([("put", "a", 0), ("put", "b", 1)])
        self.assertEqual(repr(mark(plan, STAND, 2)), "0")
        self.assertIsNone(mark(plan, STAND, 1))
        self.assertIsNone(mark(plan, STAND, 0))
        self.assertIsNone(mark(plan_of([("again", "a", ())]), STAND, 3000))

    def test_a_plan_without_rows(self):
        self.assertEqual(mark(plan_of([], mark="b"), STAND, 0), 7)


class MadePlansTest(unittest.TestCase):
    MOSTS = (3000, 40, 7, 1, 0)

    def test_as_told_in_another_way(self):
        for seed in range(400):
            plan, stand = made_plan(seed)
            for most in self.MOSTS:
                with self.subTest(seed=seed, most=most):
                    self.assertEqual(repr(run(plan, stand, most)), repr(run_otherwise(plan, stand, most)))

    def test_they_are_of_both_sorts(self):
        ends = [run(*made_plan(seed), 3000) for seed in range(400)]
        self.assertGreater(len([end for steps, end in ends if end is None]), 20)
        self.assertGreater(len([end for steps, end in ends if end is not None and len(steps) > 10]), 20)

    def test_places_rise(self):
        for seed in range(400):
            places = [place for place, _ in run(*made_plan(seed), 3000)[0]]
            self.assertTrue(all(one < other for one, other in zip(places, places[1:])))

    def test_the_mark_is_that_of_the_end(self):
        for seed in range(400):
            plan, stand = made_plan(seed)
            end = run_otherwise(plan, stand, 100)[1]
            number = None if end is None else dict(zip(plan[1], end))[plan[4]]
            self.assertEqual(repr(mark(plan, stand, 100)), repr(number))


class NothingKeptTest(unittest.TestCase):
    def test_what_is_handed_in_is_as_it_was(self):
        for seed in range(60):
            plan, stand = made_plan(seed)
            kept = copy.deepcopy((plan, stand))
            run(plan, stand, 50)
            mark(plan, stand, 50)
            self.assertEqual(repr((plan, stand)), repr(kept))

    def test_a_told_list_is_the_askers_own(self):
        for most in (3000, 4):
            plan = plan_of(MostTest.ROWS)
            told = run(plan, STAND, most)
            words = repr(told)
            told[0].append("more")
            told[0][0] = None
            self.assertEqual(repr(run(plan, STAND, most)), words)
            run(plan, STAND, most)[0].clear()
            self.assertEqual(repr(run(plan, STAND, most)), words)
        told = run(plan_of([]), STAND, 0)
        told[0].append("more")
        self.assertEqual(run(plan_of([]), STAND, 0)[0], [])

    def test_nothing_hangs_on_what_was_asked_ahead(self):
        plan, stand = made_plan(7)
        words = repr((run(plan, stand, 30), mark(plan, stand, 30)))
        for seed in range(30):
            run(*made_plan(seed), 30)
        self.assertEqual(repr((run(plan, stand, 30), mark(plan, stand, 30))), words)

    def test_the_kinds_are_just_those_told(self):
        for most in (3000, 4):
            told = run(plan_of(MostTest.ROWS + list(within(1))), STAND, most)
            self.assertIs(type(told), tuple)
            self.assertIs(type(told[0]), list)
            for step in told[0]:
                self.assertIs(type(step), tuple)
                self.assertIs(type(step[0]), tuple)
                self.assertEqual({type(number) for number in step[0]} | {type(step[1])}, {int})
        self.assertIs(type(run(plan_of([]), STAND, 0)[1]), tuple)
        truths = plan_of([("less", "a", "c", "b"), ("same", "b", "c", "c")])
        self.assertEqual({type(number) for number in run(truths, STAND, 9)[1]}, {int})
        self.assertIs(type(mark(truths, STAND, 9)), int)


if __name__ == "__main__":
    unittest.main()
