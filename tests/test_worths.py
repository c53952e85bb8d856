import random
import unittest

from tests.helper import ANY_THINGS, Mixes, TellsAnew, made_cases, plan_of
from twinstride.errors import Dry, NoCase, TooMany
from twinstride.layers import layers
from twinstride.mixes import verdict
from twinstride.plans import is_plan
from twinstride.worths import bears, fewest_by

SOUND = ((1, 2, 3), (4, 5, 6))
FAULTY = ((1, 2, 3), (5, 6, 7))


class WorthsTest(unittest.TestCase):
    def case(self, rows, sound=SOUND, faulty=FAULTY, most=3000, **more):
        plan = plan_of(rows, **more)
        self.assertTrue(is_plan(plan))
        return (plan, sound, faulty, most)

    def small_case(self):
        """The mark is 1 where piece 0 or piece 1 is faulty, and b or c as well; piece 0 is read twice."""
        rows = [
            ("take", "a", 0), ("if", "a", (), (("take", "a", 1),)), ("sum", "b", "b", "c"), ("if", "b", (), (("put", "a", 0),)),
            ("if", "a", (("take", "c", 0), ("put", "a", 1)), ()),
        ]
        return self.case(rows, sound=((0, 0, 0), (0, 0, 0)), faulty=((0, 1, 1), (1, 1, 1)))

    def refused(self, error, case, limit):
        with self.assertRaises(error):
            fewest_by(case, limit)
        for thing in ANY_THINGS:
            with self.assertRaises(error):
                bears(case, 1, thing, limit)


class FewestByTest(WorthsTest):
    def told(self, case, wanted):
        self.assertEqual(repr(fewest_by(case)), repr(wanted))
        self.assertIs(bears(case, wanted[0], wanted[2]), True)
        self.assertIs(bears(case, wanted[0] + 1, wanted[2]), False)
        self.assertIs(bears(case, wanted[0] - 1, wanted[2]), True)

    def test_no_rows(self):
        case = self.case([], faulty=((2, 2, 3), (4, 5, 6)))
        self.told(case, (1, ["a"], [[(((1, 2, 3), ()), None), (((2, 2, 3), ()), 0)]]))

    def test_one_piece(self):
        case = self.case([("take", "a", 1), ("put", "b", 0)])
        worths = [
            [(((1, 2, 3), ()), 1)], [(((5, 2, 3), ()), None), (((6, 2, 3), ()), 0)],
            [(((5, 0, 3), ()), None), (((6, 0, 3), ()), 0)],
        ]
        self.told(case, (1, [1], worths))

    def test_names_and_pieces(self):
        case = self.case([("take", "a", 2), ("by", "a", "a", "b")], sound=((1, 0, 3), (4, 5, 0)), faulty=((1, 1, 3), (5, 5, 1)))
        number, mix, worths = fewest_by(case)
        self.assertEqual((number, mix), (2, ["b", 2]))
        self.assertEqual(worths[0], [(((1, 0, 3), ()), None), (((1, 1, 3), ()), 1)])

    def test_the_mix_is_in_order(self):
        rows = [("take", "a", 2), ("by", "c", "c", "a"), ("take", "a", 0), ("by", "c", "c", "a"), ("by", "b", "b", "c")]
        case = self.case(rows, sound=((0, 0, 0), (0, 0, 0)), faulty=((0, 1, 1), (1, 1, 1)), mark="b")
        self.assertEqual(repr(fewest_by(case)[:2]), "(4, ['b', 'c', 0, 2])")

    def test_a_piece_that_was_read_is_not_counted_twice(self):
        case = self.case([("take", "a", 0), ("take", "b", 0), ("sum", "a", "a", "b")], faulty=((1, 2, 3), (5, 5, 6)))
        number, mix, worths = fewest_by(case)
        self.assertEqual((number, mix), (1, [0]))
        self.assertEqual(worths[1], [(((4, 2, 3), ((0, 4),)), None), (((5, 2, 3), ((0, 5),)), 0)])

    def test_the_small_case(self):
        case = self.small_case()
        number, mix, worths = fewest_by(case)
        self.assertEqual(number, 2)
        self.assertIn(mix, (["b", 0], ["b", 1], ["c", 0], ["c", 1]))
        self.assertIs(bears(case, 2, worths), True)

    def test_fewer_than_the_whole_fault(self):
        """Of twenty-nine pieces that are added up any eleven make the mark that all do, on a wheel of eighteen."""
        rows = [("put", "b", 0)]
        for piece in range(29):
            rows += [("take", "a", piece), ("sum", "b", "b", "a")]
        case = self.case(rows, sound=((0, 0, 0), (0,) * 40), faulty=((0, 0, 0), (1,) * 40), many=40, m=18, mark="b")
        number, mix, worths = fewest_by(case)
        self.assertEqual((number, len(mix)), (11, 11))
        self.assertEqual(mix, sorted(mix))
        self.assertIs(bears(case, 11, worths), True)
        self.assertIs(bears(case, 12, worths), False)

    def test_however_many_steps_it_takes(self):
        # The second piece alone makes the faulty mark, though by eleven steps, and a most of eight.
        loop = ("again", "c", (("take", "c", 2), ("put", "b", 0)))
        rows = [("take", "c", 0), loop, ("take", "c", 1), ("take", "a", 1), loop]
        case = self.case(rows, sound=((1, 0, 3), (1, 0, 0)), faulty=((1, 0, 3), (0, 1, 0)), most=8)
        self.assertEqual(verdict(case, [1]), "other")
        self.assertEqual(fewest_by(case)[:2], (1, [1]))

    def test_made_cases(self):
        told = 0
        for most in (60, 9):
            for case in made_cases(range(300), most):
                mixes = Mixes(case)
                if mixes.dry is not None:
                    states = mixes.most_states(mixes.dry + 1)
                    self.refused(Dry, case, states)
                    self.refused(TooMany, case, states - 1)
                    continue
                number, mix, worths = fewest_by(case)
                self.assertEqual(number, mixes.fewest())
                self.assertEqual(len(mix), number)
                self.assertIn(mix, mixes.mixes)
                self.assertEqual(mixes.mark_at_end(mixes.way(mix)), mixes.faulty_mark())
                self.assertEqual([[state for state, _ in part] for part in worths],
                                 [[state for state, _ in part] for part in layers(case)])
                self.assertTrue(mixes.bears(number, worths))
                self.assertFalse(mixes.bears(number + 1, worths))
                self.assertIs(bears(case, number, worths), True)
                self.assertIs(bears(case, number + 1, worths), False)
                told += number > 1
        self.assertGreater(told, 20)


class RefusalsTest(WorthsTest):
    def test_too_many(self):
        case = self.case([("take", "a", 0), ("take", "b", 1), ("pick", "c", "a")])
        states = Mixes(case).most_states()
        self.assertEqual(fewest_by(case, states), fewest_by(case))
        self.assertIs(bears(case, 1, fewest_by(case)[2], states), True)
        self.assertIs(bears(case, 1, fewest_by(case)[2], limit=2000), True)
        self.refused(TooMany, case, states - 1)
        self.refused(TooMany, case, 1)

    def test_dry_and_too_many(self):
        rows = [("same", "a", "b", "c"), ("again", "a", ()), ("take", "a", 0)]
        case = self.case(rows, sound=((1, 2, 3), (4, 5, 6)), faulty=((1, 3, 2), (5, 6, 7)), most=20)
        self.refused(Dry, case, 4)
        self.refused(TooMany, case, 3)

    def test_no_case_goes_first(self):
        for case in (self.case([("take", "a", 0)], faulty=SOUND), self.case([("again", "a", ())]), self.case([("put", "a", 0)])):
            self.refused(NoCase, case, 1)
            self.refused(NoCase, case, 500)


class BearsTest(WorthsTest):
    def setUp(self):
        self.one = self.small_case()
        self.mixes = Mixes(self.one)
        self.number, self.mix, self.worths = fewest_by(self.one)

    def same(self, number, worths):
        """Of worths of the right form."""
        wanted = self.mixes.bears(number, worths)
        self.assertIs(bears(self.one, number, worths), wanted)
        return wanted

    def wrong(self, thing):
        # The least number that could be asked for, so that only what is wrong with the thing itself matters.
        self.assertIs(bears(self.one, -5, thing), False, thing)

    def changed(self, k, i, pair):
        told = [list(part) for part in self.worths]
        told[k][i] = pair
        return told

    def each_pair(self):
        for k, part in enumerate(self.worths):
            for i, pair in enumerate(part):
                yield k, i, pair

    def test_the_told_ones(self):
        self.assertGreater(len(list(self.each_pair())), 20)
        for number in range(-3, 5):
            self.assertIs(self.same(number, self.worths), number <= self.number)
        self.assertIs(bears(self.one, -(10 ** 59), self.worths), True)
        self.assertIs(bears(self.one, 10 ** 59, self.worths), False)

    def test_smaller_worths_bear_a_smaller_number(self):
        smaller = [[(state, None if worth is None else 0) for state, worth in part] for part in self.worths]
        self.assertIs(self.same(0, smaller), True)
        self.assertIs(self.same(2, smaller), False)

    def test_other_worths(self):
        truths = 0
        for k, i, (state, worth) in self.each_pair():
            for other in (None, 0, 1, 2, 3, 10 ** 59):
                for number in (self.number, self.number - 1, 0):
                    truths += self.same(number, self.changed(k, i, (state, other)))
        self.assertGreater(truths, 50)

    def test_worths_at_random(self):
        chance = random.Random(5)
        truths = 0
        for _ in range(3000):
            told = [list(part) for part in self.worths]
            for _ in range(chance.randint(1, 4)):
                k = chance.randrange(len(told))
                i = chance.randrange(len(told[k]))
                told[k][i] = (told[k][i][0], chance.choice((None, 0, 1, 2)))
            truths += self.same(chance.choice((0, 1, 2)), told)
        self.assertGreater(truths, 100)

    def test_the_last_moment(self):
        last = len(self.worths) - 1
        for k, i, (state, worth) in self.each_pair():
            if k == last:
                for other in (0, None, 1):
                    if other != worth:
                        self.wrong(self.changed(k, i, (state, other)))

    def test_negative_worths_and_truths(self):
        for k, i, (state, worth) in self.each_pair():
            for other in (-1, -(10 ** 59), True, False, "0", "", (), (0,), [], [0]):
                self.wrong(self.changed(k, i, (state, other)))

    def test_a_state_left_out_and_one_more(self):
        for k, i, (state, worth) in self.each_pair():
            told = [list(part) for part in self.worths]
            gone = told[k].pop(i)
            self.wrong(told)
            told[k].insert(i, gone)
            told[k].insert(i, gone)
            self.wrong(told)
            told[k][i] = (((9,) * 3, ()), 0)
            self.wrong(told)
            told[k].pop(i)
            told[k][i] = (((9,) * 3, ()), worth)
            self.wrong(told)
        self.wrong(self.worths + [[]])
        self.wrong(self.worths[:-1])
        self.wrong(self.worths[1:])
        self.wrong(self.worths + [self.worths[-1]])
        self.wrong([])

    def test_another_order(self):
        for k, part in enumerate(self.worths):
            if len(part) > 1:
                self.wrong(self.worths[:k] + [part[::-1]] + self.worths[k + 1:])
                self.wrong(self.worths[:k] + [part[1:] + part[:1]] + self.worths[k + 1:])
        self.wrong(self.worths[::-1])

    def test_lists_in_the_stead_of_tuples_and_the_other_way(self):
        self.wrong(tuple(self.worths))
        for k, part in enumerate(self.worths):
            self.wrong(self.worths[:k] + [tuple(part)] + self.worths[k + 1:])
        for k, i, ((numbers, kept), worth) in self.each_pair():
            for state in ([numbers, kept], (list(numbers), kept), (numbers, list(kept))):
                self.wrong(self.changed(k, i, (state, worth)))
            if kept:
                self.wrong(self.changed(k, i, ((numbers, ([*kept[0]],) + kept[1:]), worth)))
            self.wrong(self.changed(k, i, [(numbers, kept), worth]))
            self.wrong(self.changed(k, i, ((numbers, kept), worth, worth)))
            self.wrong(self.changed(k, i, ((numbers, kept),)))
            self.wrong(self.changed(k, i, (worth, (numbers, kept))))

    def test_truths_in_the_states(self):
        seen = 0
        for k, i, ((numbers, kept), worth) in self.each_pair():
            for j, number in enumerate(numbers):
                if number < 2:
                    state = (numbers[:j] + (bool(number),) + numbers[j + 1:], kept)
                    self.wrong(self.changed(k, i, (state, worth)))
            for j, (piece, number) in enumerate(kept):
                for pair in ((bool(piece), number), (piece, bool(number))):
                    self.wrong(self.changed(k, i, ((numbers, kept[:j] + (pair,) + kept[j + 1:]), worth)))
                    seen += 1
        self.assertGreater(seen, 4)

    def test_any_thing_anywhere(self):
        for thing in ANY_THINGS:
            self.wrong(thing)
            for k, part in enumerate(self.worths):
                self.wrong(self.worths[:k] + [thing] + self.worths[k + 1:])
            for k, i, ((numbers, kept), worth) in self.each_pair():
                self.wrong(self.changed(k, i, thing))
                self.wrong(self.changed(k, i, (thing, worth)))
                self.wrong(self.changed(k, i, ((thing, kept), worth)))
                if thing != kept:
                    self.wrong(self.changed(k, i, ((numbers, thing), worth)))
                self.wrong(self.changed(k, i, ((numbers, kept + (thing,)), worth)))

    def test_worths_of_another_case(self):
        other = self.case([("take", "a", 1), ("put", "b", 0)])
        self.wrong(fewest_by(other)[2])
        self.assertIs(bears(other, 0, self.worths), False)

    def test_a_step_too_great_over_a_row(self):
        # Piece 1 alone makes the mark: of the first state a worth of one is right, and of two too great.
        case = self.case([("put", "b", 0), ("take", "a", 1)])
        worths = fewest_by(case)[2]
        self.assertEqual([worth for part in worths for _, worth in part], [1, 1, None, 0])
        for first, second, truth in ((1, 1, True), (0, 1, True), (2, 1, False), (2, 2, False), (1, 0, False), (0, 0, True)):
            told = [[(worths[0][0][0], first)], [(worths[1][0][0], second)], worths[2]]
            self.assertIs(bears(case, 0, told), truth)

    def test_none_comes_to_none_alone(self):
        case = self.case([("put", "b", 0), ("take", "a", 1)])
        worths = fewest_by(case)[2]
        for first, second in ((None, 1), (1, None), (None, None)):
            told = [[(worths[0][0][0], first)], [(worths[1][0][0], second)], worths[2]]
            self.assertIs(bears(case, 0, told), False)

    def test_made_cases(self):
        chance = random.Random(8)
        truths = lies = 0
        for case in made_cases(range(200), 60):
            mixes = Mixes(case)
            if mixes.dry is not None:
                continue
            number, _, worths = fewest_by(case)
            for _ in range(20):
                told = [list(part) for part in worths]
                k = chance.randrange(len(told))
                i = chance.randrange(len(told[k]))
                told[k][i] = (told[k][i][0], chance.choice((None, 0, 1, 2)))
                wanted = mixes.bears(number, told)
                self.assertIs(bears(case, number, told), wanted)
                truths += wanted
                lies += not wanted
        self.assertGreater(truths, 100)
        self.assertGreater(lies, 100)


class NothingKeptTest(unittest.TestCase, TellsAnew):
    def test_what_is_handed_in_is_as_it_was(self):
        for case in made_cases(range(100), 60):
            if Mixes(case).dry is None:
                self.tells_anew(fewest_by, case)
                number, _, worths = fewest_by(case)
                self.tells_anew(bears, case, number, worths)
                self.tells_anew(bears, case, number, [[], [[]]], 600)


if __name__ == "__main__":
    unittest.main()
