import unittest
from collections import Counter

from tests.helper import Mixes, TellsAnew, all_mixes, made_cases, marked_otherwise, plan_of, stand_otherwise, unlike_otherwise
from twinstride.errors import Dry, NoCase, TooMany
from twinstride.layers import layers, marks_counted
from twinstride.plans import is_plan

SOUND = ((1, 2, 3), (4, 5, 6))
FAULTY = ((1, 2, 3), (5, 6, 7))


class LayersTest(unittest.TestCase):
    def case(self, rows, sound=SOUND, faulty=FAULTY, most=3000, **more):
        plan = plan_of(rows, **more)
        self.assertTrue(is_plan(plan))
        return (plan, sound, faulty, most)

    def layers_are(self, case, *wanted):
        self.assertEqual(repr(layers(case)), repr(list(wanted)))
        self.assertEqual(repr(Mixes(case).layers()), repr(list(wanted)))

    def refused(self, error, case, limit):
        for call in (layers, marks_counted):
            with self.subTest(call=call), self.assertRaises(error):
                call(case, limit)


class StatesTest(LayersTest):
    def test_no_rows(self):
        case = self.case([], faulty=((2, 2, 3), (4, 5, 6)))
        self.layers_are(case, [(((1, 2, 3), ()), 1), (((2, 2, 3), ()), 1)])

    def test_names_are_settled_from_the_first(self):
        case = self.case([("sum", "a", "b", "c")], faulty=((1, 0, 4), (4, 5, 7)))
        first = [(((1, 0, 3), ()), 2), (((1, 0, 4), ()), 2), (((1, 2, 3), ()), 2), (((1, 2, 4), ()), 2)]
        self.layers_are(case, first, [(((3, 0, 3), ()), 2), (((4, 0, 4), ()), 2), (((5, 2, 3), ()), 2), (((6, 2, 4), ()), 2)])

    def test_states_that_are_alike_are_one(self):
        case = self.case([("take", "a", 0), ("take", "b", 1), ("sum", "a", "a", "b"), ("put", "b", 0)])
        told = layers(case)
        self.assertEqual(told, Mixes(case).layers())
        self.assertEqual(told[4], [(((0, 0, 3), ()), 4), (((1, 0, 3), ()), 2), (((9, 0, 3), ()), 2)])

    def test_a_piece_that_may_be_taken_again_is_kept(self):
        rows = [("take", "a", 0), ("put", "a", 0), ("take", "b", 0), ("sum", "a", "a", "b")]
        case = self.case(rows, faulty=((1, 2, 3), (5, 5, 6)))
        self.layers_are(
            case, [(((1, 2, 3), ()), 2)], [(((4, 2, 3), ((0, 4),)), 1), (((5, 2, 3), ((0, 5),)), 1)],
            [(((0, 2, 3), ((0, 4),)), 1), (((0, 2, 3), ((0, 5),)), 1)],
            [(((0, 4, 3), ()), 1), (((0, 5, 3), ()), 1)], [(((4, 4, 3), ()), 1), (((5, 5, 3), ()), 1)],
        )

    def test_a_piece_that_was_not_read_is_not_kept(self):
        rows = [("put", "b", 0), ("take", "a", 0)]
        case = self.case(rows, faulty=((1, 2, 3), (5, 5, 6)))
        self.layers_are(
            case, [(((1, 2, 3), ()), 2)], [(((1, 0, 3), ()), 2)], [(((4, 0, 3), ()), 1), (((5, 0, 3), ()), 1)],
        )

    def test_an_alike_piece_is_not_kept(self):
        rows = [("take", "b", 1), ("take", "a", 0), ("take", "b", 1)]
        case = self.case(rows, faulty=((1, 2, 3), (5, 5, 6)))
        wanted = [(((4, 5, 3), ()), 1), (((5, 5, 3), ()), 1)]
        self.layers_are(case, [(((1, 2, 3), ()), 2)], [(((1, 5, 3), ()), 2)], wanted, wanted)

    def test_all_are_kept_ahead_of_a_pick(self):
        rows = [("take", "a", 2), ("take", "a", 0), ("take", "b", 1), ("pick", "c", "b")]
        case = self.case(rows, faulty=((1, 2, 3), (5, 5, 7)))
        told = layers(case)
        self.assertEqual(told, Mixes(case).layers())
        self.assertEqual(told[2][0], (((4, 2, 3), ((0, 4), (2, 6))), 1))
        self.assertEqual({state[1] for state, _ in told[4]}, {()})

    def test_a_pick_reads_its_piece_alone(self):
        rows = [("pick", "a", "b"), ("pick", "b", "c"), ("take", "c", 1)]
        case = self.case(rows, sound=((1, 2, 3), (4, 5, 6)), faulty=((1, 2, 3), (5, 6, 7)))
        told = layers(case)
        self.assertEqual(told, Mixes(case).layers())
        self.assertEqual(told[1], [(((6, 2, 3), ((2, 6),)), 4), (((7, 2, 3), ((2, 7),)), 4)])
        self.assertEqual(told[2][0], (((6, 4, 3), ()), 2))

    def test_kept_in_a_row_for_its_own_rows(self):
        rows = [("again", "c", (("take", "a", 0), ("take", "b", 0), ("sum", "a", "a", "b"), ("take", "c", 2)))]
        case = self.case(rows, sound=((1, 2, 3), (4, 5, 0)), faulty=((1, 2, 3), (5, 5, 0)))
        self.layers_are(case, [(((1, 2, 3), ()), 2)], [(((0, 5, 0), ()), 1), (((8, 4, 0), ()), 1)])
        rows = [("if", "b", (("take", "a", 0), ("if", "a", (("take", "b", 0),), ())), ()), ("sum", "a", "a", "b")]
        case = self.case(rows, faulty=((1, 2, 3), (0, 5, 6)))
        self.layers_are(
            case, [(((1, 2, 3), ()), 2)], [(((0, 2, 3), ()), 1), (((4, 4, 3), ()), 1)],
            [(((2, 2, 3), ()), 1), (((8, 4, 3), ()), 1)],
        )

    def test_kept_for_the_next_round(self):
        # The piece is read in the first round and again in the second.
        rows = [("again", "c", (("take", "a", 0), ("sum", "b", "b", "a"), ("sum", "c", "c", "c")))]
        case = self.case(rows, sound=((1, 0, 1), (0, 5, 6)), faulty=((1, 0, 1), (1, 5, 6)), m=4)
        self.layers_are(case, [(((1, 0, 1), ()), 2)], [(((0, 0, 0), ()), 1), (((1, 2, 0), ()), 1)])

    def test_dropped_where_only_the_branch_not_done_takes_it(self):
        rows = [("take", "a", 0), ("if", "c", (), (("take", "b", 0),)), ("put", "b", 0)]
        case = self.case(rows, faulty=((1, 2, 3), (5, 5, 6)))
        two = [(((4, 2, 3), ((0, 4),)), 1), (((5, 2, 3), ((0, 5),)), 1)]
        self.layers_are(
            case, [(((1, 2, 3), ()), 2)], two, [(state[:1] + ((),), many) for state, many in two],
            [(((4, 0, 3), ()), 1), (((5, 0, 3), ()), 1)],
        )

    def test_a_run_longer_than_the_most(self):
        # The sound and the faulty run take seven steps each; with the second piece alone there are ten, four a row at most.
        loop = ("again", "c", (("take", "c", 2), ("put", "b", 1)))
        rows = [("take", "c", 0), loop, ("take", "c", 1), loop]
        case = self.case(rows, sound=((1, 2, 3), (1, 0, 0)), faulty=((2, 2, 3), (0, 1, 0)), most=7)
        told = layers(case)
        self.assertEqual(told, Mixes(case).layers())
        self.assertEqual(sum(many for _, many in told[-1]), 8)
        self.assertIsNone(marked_otherwise(case[0], stand_otherwise(case, [1]), 7))
        self.assertEqual(marks_counted(case), [(1, 4), (2, 4)])


class RefusalsTest(LayersTest):
    ROWS = [("take", "a", 0), ("take", "b", 1), ("pick", "c", "c"), ("pick", "c", "b")]

    def test_just_as_many_states(self):
        case = self.case(self.ROWS)
        mixes = Mixes(case)
        states = mixes.most_states()
        self.assertEqual(states, 6)
        self.assertEqual(layers(case, states), mixes.layers())
        self.assertEqual(layers(case, limit=2000), mixes.layers())
        self.refused(TooMany, case, states - 1)
        self.refused(TooMany, case, 1)

    def test_the_last_layer_is_held_against_the_limit_too(self):
        case = self.case([("take", "a", 0)])
        self.assertEqual(len(layers(case, 2)), 2)
        self.refused(TooMany, case, 1)
        case = self.case([], faulty=((2, 2, 3), (4, 5, 6)))
        self.assertEqual(len(layers(case, 2)), 1)
        self.refused(TooMany, case, 1)

    def test_a_first_layer_of_many_names(self):
        names = tuple("abcdefghijkl")
        case = ((2, names, 0, (), "a"), ((0,) * 12, ()), ((1,) * 12, ()), 0)
        for limit in (1, 500, 2000, 4095):
            self.refused(TooMany, case, limit)
        with self.assertRaises(TooMany):
            layers(case)
        case = ((2, names, 0, (("put", "b", 0),), "a"), ((0,) * 12, ()), ((1,) * 10 + (0, 0), ()), 1)
        self.refused(TooMany, case, 1023)
        told = layers(case, 1024)
        self.assertEqual([len(layer) for layer in told], [1024, 512])
        self.assertEqual({many for _, many in told[1]}, {2})

    def test_a_row_that_just_suffices(self):
        rows = [("again", "c", (("take", "c", 0), ("put", "b", 1)))]
        case = self.case(rows, sound=((1, 2, 3), (0, 0, 0)), faulty=((2, 2, 3), (0, 1, 1)), most=4)
        self.assertEqual(layers(case), Mixes(case).layers())
        with self.assertRaises(NoCase):
            layers(case[:3] + (3,))

    def dry_case(self, most=20):
        """With one of b and c faulty, not both, the second row never ends."""
        rows = [("same", "a", "b", "c"), ("again", "a", ()), ("take", "a", 0)]
        return self.case(rows, sound=((1, 2, 3), (4, 5, 6)), faulty=((1, 3, 2), (5, 6, 7)), most=most)

    def test_dry(self):
        case = self.dry_case()
        self.assertEqual(Mixes(case).dry, 1)
        self.refused(Dry, case, 500)

    def test_dry_by_an_unlike_piece(self):
        rows = [("if", "c", (("take", "b", 0), ("take", "a", 1), ("same", "b", "a", "b"), ("again", "b", ())), ())]
        case = self.case(rows, sound=((1, 2, 3), (1, 2, 0)), faulty=((1, 2, 3), (2, 3, 0)), most=20)
        self.assertEqual(Mixes(case).dry, 0)
        self.refused(Dry, case, 1)

    def test_dry_by_the_longer_of_two_ways_to_one_state(self):
        # Each faulty half takes two steps more and leaves nothing behind; both take eleven in all, one of them nine.
        half = (("if", "a", (("put", "b", 0), ("put", "b", 0)), ()), ("put", "a", 0))
        rows = [("if", "c", (("take", "a", 0),) + half + (("take", "a", 1),) + half, ())]
        for most, dry in ((9, True), (10, True), (11, False)):
            case = self.case(rows, sound=((0, 0, 1), (1, 0, 0)), faulty=((0, 0, 2), (0, 1, 0)), most=most, mark="c")
            self.assertEqual(Mixes(case).dry, 0 if dry else None)
            if dry:
                self.refused(Dry, case, 500)
            else:
                self.layers_are(case, [(((0, 0, 1), ()), 4), (((0, 0, 2), ()), 4)], [(((0, 0, 1), ()), 4), (((0, 0, 2), ()), 4)])

    def test_too_many_goes_first_at_a_moment(self):
        case = self.dry_case()
        self.assertEqual(Mixes(case).most_states(2), 4)
        self.refused(Dry, case, 4)
        self.refused(TooMany, case, 3)

    def test_dry_goes_ahead_of_a_later_layer(self):
        # One state of the first moment; its row is too long for a mix, and the layer behind it would have four.
        rows = [("if", "c", (("take", "b", 0), ("take", "a", 1), ("same", "c", "a", "b"), ("again", "c", ())), ())]
        case = self.case(rows, sound=((1, 2, 3), (1, 2, 0)), faulty=((1, 2, 3), (2, 3, 0)), most=20)
        self.refused(Dry, case, 1)
        # A first row that makes more states than the limit goes ahead of a later one that is dry.
        rows = [("take", "b", 0), ("take", "a", 1), ("same", "c", "a", "b"), ("again", "c", ())]
        case = self.case(rows, sound=((1, 2, 3), (1, 2, 0)), faulty=((1, 2, 3), (2, 3, 0)), most=20)
        self.refused(TooMany, case, 3)
        self.refused(Dry, case, 4)

    def test_no_case_goes_first(self):
        for case in (self.case(self.ROWS, faulty=SOUND), self.case([("again", "a", ())]), self.case([("put", "a", 0)])):
            self.refused(NoCase, case, 1)
            self.refused(NoCase, case, 500)

    def test_a_most_of_nought(self):
        case = self.case([], faulty=((2, 2, 3), (4, 5, 6)), most=0)
        self.assertEqual(len(layers(case)[0]), 2)


class MarksCountedTest(LayersTest):
    def test_rising(self):
        case = self.case([("take", "a", 0), ("take", "b", 1), ("sum", "a", "a", "b")])
        self.assertEqual(repr(marks_counted(case)), "[(0, 4), (1, 2), (9, 2)]")

    def test_no_rows(self):
        case = self.case([], sound=((7, 2, 3), (4, 5, 6)), faulty=((1, 2, 3), (4, 5, 0)))
        self.assertEqual(repr(marks_counted(case)), "[(1, 2), (7, 2)]")

    def test_where_no_tree_is_small(self):
        """How many of forty pieces are faulty, on a wheel of eleven: by the binomial numbers."""
        rows = [("put", "b", 0)]
        for piece in range(29):
            rows += [("take", "a", piece), ("sum", "b", "b", "a")]
        case = self.case(rows, sound=((1, 2, 3), (0,) * 40), faulty=((1, 2, 3), (1,) * 40), many=40, m=11, mark="b")
        self.assertEqual(len(case[0][3]), 59)
        ways = [1]
        for _ in range(29):
            ways = [one + other for one, other in zip(ways + [0], [0] + ways)]
        wanted = Counter()
        for faulty, many in enumerate(ways):
            wanted[faulty % 11] += many * 2 ** 11
        self.assertEqual(marks_counted(case), sorted(wanted.items()))
        self.assertEqual(sum(wanted.values()), 2 ** 40)
        for layer in layers(case):
            self.assertEqual(sum(many for _, many in layer), 2 ** 40)

    def test_many_takes_within_one_row(self):
        takes = []
        for piece in range(28):
            takes += [("take", "a", piece), ("sum", "b", "b", "a")]
        for row in (("if", "c", tuple(takes), ()), ("if", "c", (("if", "c", tuple(takes), ()),), ())):
            case = self.case([row], sound=((0, 0, 1), (0,) * 28), faulty=((0, 0, 1), (1,) * 28), many=28, m=5, mark="b")
            self.assertEqual(sum(many for _, many in marks_counted(case, 10)), 2 ** 28)

    def test_made_cases(self):
        for case in made_cases(range(300), 60):
            marks = Counter(marked_otherwise(case[0], stand_otherwise(case, mix), 60) for mix in all_mixes(case))
            if None not in marks:
                self.assertEqual(repr(marks_counted(case)), repr(sorted(marks.items())))


class MadeCasesTest(LayersTest):
    def test_as_told_in_another_way(self):
        told = dry = kept = 0
        for most in (60, 9, 6):
            for case in made_cases(range(300), most):
                mixes = Mixes(case)
                if mixes.dry is not None:
                    # At a moment the layer's states are counted ahead of the row behind it.
                    states = mixes.most_states(mixes.dry + 1)
                    self.refused(Dry, case, states)
                    self.refused(TooMany, case, states - 1)
                    dry += 1
                    continue
                wanted = mixes.layers()
                self.assertEqual(repr(layers(case)), repr(wanted))
                states = mixes.most_states()
                self.assertEqual(layers(case, states), wanted)
                self.refused(TooMany, case, states - 1)
                for layer in wanted:
                    self.assertEqual(sum(many for _, many in layer), 2 ** len(unlike_otherwise(*case[:3])))
                told += 1
                kept += any(state[1] for layer in wanted for state, _ in layer)
        self.assertGreater(told, 200)
        self.assertGreater(dry, 10)
        self.assertGreater(kept, 40)


class NothingKeptTest(unittest.TestCase, TellsAnew):
    def test_what_is_handed_in_is_as_it_was(self):
        for case in made_cases(range(100), 60):
            if Mixes(case).dry is None:
                self.tells_anew(layers, case)
                self.tells_anew(layers, case, 600)
                self.tells_anew(marks_counted, case)


if __name__ == "__main__":
    unittest.main()
