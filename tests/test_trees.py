import unittest
from collections import Counter

from tests.helper import (
    ANY_THINGS, Sources, TellsAnew, all_mixes, made_cases, marked_otherwise, plan_of, stand_otherwise,
    unlike_otherwise,
)
from twinstride.errors import NoCase, TooMany
from twinstride.plans import is_plan
from twinstride.trees import counted, is_tree, mark_by, tree

SOUND = ((1, 2, 3), (4, 5, 6))
FAULTY = ((2, 3, 4), (5, 6, 7))


def end(mark):
    return ("end", mark)


def ask(thing, sound, faulty):
    """An asking; whole numbers and None stand for ends."""
    sides = [side if isinstance(side, tuple) else end(side) for side in (sound, faulty)]
    return ("ask", thing, *sides)


def tree_otherwise(case, settled=()):
    """The tree, found in another way: each part of it by a run of its own, from the start."""
    plan, _, _, most = case
    sources = Sources(plan, stand_otherwise(case, [thing for thing, faulty in settled if faulty]), most)
    known = [thing for thing, _ in settled]
    for place in [place for place, _ in sources.steps] + [None] * (not sources.dry):
        for thing in sources.froms(place)[1]:
            if thing in unlike_otherwise(*case[:3]) and thing not in known:
                sides = [tree_otherwise(case, settled + ((thing, faulty),)) for faulty in (False, True)]
                return ("ask", thing, *sides)
    return ("end", None if sources.dry else sources.numbers[plan[4]])


def ends_of(told):
    return 1 if told[0] == "end" else ends_of(told[2]) + ends_of(told[3])


def deepest(told):
    return 0 if told[0] == "end" else 1 + max(deepest(told[2]), deepest(told[3]))


class TreesTest(unittest.TestCase):
    def case(self, rows, sound=SOUND, faulty=FAULTY, most=3000, **more):
        plan = plan_of(rows, **more)
        self.assertTrue(is_plan(plan))
        return (plan, sound, faulty, most)

    def tree_is(self, case, wanted):
        self.assertEqual(repr(tree(case)), repr(wanted))
        self.assertEqual(repr(tree_otherwise(case)), repr(wanted))
        self.assertIs(is_tree(case, wanted), True)


class EachRowTest(TreesTest):
    def test_no_rows(self):
        self.tree_is(self.case([]), ask("a", 1, 2))
        self.tree_is(self.case([], mark="c", most=0), ask("c", 3, 4))

    def test_put_reads_nothing(self):
        self.tree_is(self.case([("put", "b", 3)]), ask("a", 1, 2))

    def test_take(self):
        self.tree_is(self.case([("take", "a", 1)]), ask(1, 5, 6))
        self.tree_is(self.case([("take", "b", 2)]), ask(2, ask("a", 1, 2), ask("a", 1, 2)))

    def test_sum_by_less_same(self):
        self.tree_is(self.case([("sum", "a", "b", "c")]), ask("b", ask("c", 5, 6), ask("c", 6, 7)))
        self.tree_is(self.case([("sum", "a", "c", "b")]), ask("b", ask("c", 5, 6), ask("c", 6, 7)))
        self.tree_is(self.case([("by", "a", "b", "b")]), ask("b", 4, 9))
        faulty = ((2, 3, 3), (5, 6, 7))
        self.tree_is(self.case([("less", "a", "b", "c")], faulty=faulty), ask("b", 1, 0))
        self.tree_is(self.case([("same", "a", "c", "b")], faulty=faulty), ask("b", 0, 1))

    def test_names_in_the_plans_order(self):
        names = ("z", "b", "a")
        wanted = ask("z", ask("a", 4, 5), ask("a", 5, 6))
        self.tree_is(self.case([("sum", "b", "a", "z")], names=names, mark="b"), wanted)

    def test_looks(self):
        rows = [("if", "b", (("put", "a", 7),), (("put", "a", 8),))]
        faulty = ((2, 0, 3), (4, 5, 6))
        self.tree_is(self.case(rows, faulty=faulty), ask("b", 7, 8))
        self.tree_is(self.case([("if", "b", (), ())]), ask("b", ask("a", 1, 2), ask("a", 1, 2)))
        rows = [("again", "b", (("put", "a", 7), ("put", "b", 0)))]
        faulty = ((2, 0, 3), (4, 5, 6))
        self.tree_is(self.case(rows, faulty=faulty), ask("b", 7, ask("a", 1, 2)))

    def test_a_picks_piece_behind_its_name(self):
        # b is 2 or 3: the piece is 2 or 0.
        self.tree_is(self.case([("pick", "a", "b")]), ask("b", ask(2, 6, 7), ask(0, 4, 5)))
        alike = ((1, 2, 3), (5, 5, 6))
        self.tree_is(self.case([("pick", "a", "b")], faulty=((1, 3, 3), alike[1])), ask("b", 6, ask(0, 4, 5)))
        self.tree_is(self.case([("pick", "a", "b")], faulty=((2, 2, 3), (4, 5, 7))), ask(2, 6, 7))

    def test_a_pick_of_one_piece_by_either_number(self):
        self.tree_is(self.case([("pick", "a", "b")], faulty=((2, 5, 3), (4, 5, 7))), ask("b", ask(2, 6, 7), ask(2, 6, 7)))

    def test_things_that_are_alike_are_not_asked(self):
        self.tree_is(self.case([("sum", "a", "b", "c")], faulty=((2, 2, 4), (4, 5, 6))), ask("c", 5, 6))
        rows = [("take", "b", 0), ("take", "a", 1)]
        self.tree_is(self.case(rows, faulty=((1, 2, 3), (4, 6, 6))), ask(1, 5, 6))


class OnTheWayTest(TreesTest):
    def test_each_thing_once(self):
        rows = [("take", "a", 1), ("take", "b", 1), ("sum", "a", "a", "b")]
        self.tree_is(self.case(rows), ask(1, 0, 2))
        rows = [("sum", "a", "b", "b"), ("sum", "a", "a", "b"), ("if", "b", (), ())]
        self.tree_is(self.case(rows), ask("b", 6, 9))

    def test_a_name_set_ahead_is_not_asked(self):
        self.tree_is(self.case([("put", "b", 1), ("sum", "a", "b", "c")]), ask("c", 4, 5))
        self.tree_is(self.case([("take", "a", 0), ("sum", "a", "a", "a")]), ask(0, 8, 0))

    def test_a_name_set_in_a_branch_that_was_not_done(self):
        rows = [("if", "b", (), (("put", "a", 9),))]
        self.tree_is(self.case(rows, faulty=((2, 0, 3), (4, 5, 6))), ask("b", ask("a", 1, 2), 9))

    def test_the_end_reads_the_marks_name(self):
        rows = [("take", "b", 0), ("take", "c", 1)]
        side = ask(1, ask("a", 1, 2), ask("a", 1, 2))
        self.tree_is(self.case(rows), ask(0, side, side))
        self.tree_is(self.case([("if", "a", (), ())]), ask("a", 1, 2))

    def test_sides_that_ask_unlike_things(self):
        rows = [("if", "b", (("take", "a", 0),), (("take", "a", 1), ("sum", "a", "a", "c")))]
        case = self.case(rows, faulty=((2, 0, 4), (5, 6, 7)))
        self.tree_is(case, ask("b", ask(0, 4, 5), ask(1, ask("c", 8, 9), ask("c", 9, 0))))

    def test_rounds(self):
        rows = [("again", "c", (("pick", "a", "c"), ("sum", "c", "c", "b")))]
        case = self.case(rows, sound=((1, 9, 1), (4, 5, 6)), faulty=((1, 9, 2), (5, 6, 7)))
        both = ask(2, ask(1, 5, 6), ask(1, 5, 6))
        self.tree_is(case, ask("c", ask(1, 5, 6), both))


class DryEndsTest(TreesTest):
    def test_a_dry_end(self):
        # b + c is 4 for both stands' mixes but one, which never ends.
        rows = [("sum", "a", "b", "c"), ("put", "b", 6), ("same", "b", "a", "b"), ("again", "b", ())]
        case = self.case(rows, sound=((0, 1, 3), (0, 0, 0)), faulty=((0, 2, 5), (0, 0, 0)), most=30)
        self.tree_is(case, ask("b", ask("c", 4, None), ask("c", 5, 7)))

    def test_what_one_too_many_would_read_is_not_asked(self):
        # With the sound c there are three steps, with the faulty one two; the mix of b and the sound c is dry.
        rows = [("if", "c", (("put", "a", 7),), ()), ("if", "b", (("take", "a", 0),), ())]
        sound, faulty = ((1, 0, 3), (4, 5, 6)), ((1, 2, 0), (5, 5, 6))
        case = self.case(rows, sound=sound, faulty=faulty, most=3)
        self.tree_is(case, ask("c", ask("b", 7, None), ask("b", 1, ask(0, 4, 5))))
        # The steps done ahead of an asking count.
        rows = [("if", "c", (("put", "a", 7), ("put", "a", 8)), ()), ("if", "b", (("put", "a", 9),), ()), ("take", "b", 1)]
        sound, faulty = ((1, 0, 3), (4, 5, 6)), ((2, 1, 0), (4, 6, 6))
        case = self.case(rows, sound=sound, faulty=faulty, most=5)
        wanted = ask("c", ask("b", ask(1, 8, 8), None), ask("b", ask(1, ask("a", 1, 2), ask("a", 1, 2)), ask(1, 9, 9)))
        self.tree_is(case, wanted)

    def test_each_sort_of_row_one_too_many(self):
        for row in (("take", "a", 0), ("pick", "a", "b"), ("sum", "a", "b", "c"), ("if", "b", (), ()), ("again", "b", ())):
            rows = [("if", "a", (), (("put", "a", 1), ("put", "b", 0), row, ("put", "a", 1)))]
            # The mark is c; a step more than the one look is done in the faulty one alone, and too many in no stand.
            sound, faulty = ((1, 2, 3), (4, 5, 6)), ((2, 3, 4), (5, 6, 7))
            case = self.case(rows, sound=sound, faulty=faulty, most=1, mark="c")
            self.tree_is(case, ask("a", ask("c", 3, 4), ask("c", 3, 4)))
        for row in (("take", "c", 0), ("pick", "c", "b"), ("sum", "c", "b", "a"), ("if", "b", (), ()), ("again", "b", ())):
            rows = [("same", "a", "a", "c"), ("if", "a", (row,), ())]
            sound, faulty = ((1, 0, 3), (4, 5, 6)), ((2, 0, 1), (5, 6, 7))
            case = self.case(rows, sound=sound, faulty=faulty, most=2, mark="c")
            self.tree_is(case, ask("a", ask("c", 3, None), ask("c", 3, 1)))

    def test_the_end_is_read_by_a_run_that_just_suffices(self):
        self.tree_is(self.case([("put", "b", 3)], most=1), ask("a", 1, 2))


class LimitTest(TreesTest):
    # Sixteen ends.
    ROWS = [("take", "a", 0), ("take", "b", 1), ("sum", "a", "a", "b"), ("take", "b", 2), ("sum", "a", "a", "b"), ("sum", "a", "a", "c")]

    def test_just_as_many(self):
        case = self.case(self.ROWS)
        wanted = tree_otherwise(case)
        self.assertEqual(ends_of(wanted), 16)
        self.assertEqual(tree(case, 16), wanted)
        self.assertEqual(tree(case, limit=2000), wanted)
        self.assertEqual(tree(case), wanted)
        self.assertEqual(counted(case, 16), counted(case, limit=17))
        for limit in (1, 2, 8, 15):
            for call in (tree, counted):
                with self.assertRaises(TooMany):
                    call(case, limit)

    def test_a_limit_of_one(self):
        case = self.case([])
        with self.assertRaises(TooMany):
            tree(case, 1)
        self.assertEqual(tree(case, 2), ask("a", 1, 2))

    def many_ends(self, more):
        """As many ends as 1024, and so many more by the last piece, which is asked on some ways alone."""
        rows = []
        for piece in range(10):
            rows += [("take", "b", piece), ("sum", "a", "a", "b")]
        for number in range(more):
            rows += [("put", "c", number), ("same", "c", "a", "c"), ("if", "c", (("take", "b", 10),), ())]
        pieces = ((0,) * 11, (1,) * 11)
        return self.case(rows, sound=((0, 0, 0), pieces[0]), faulty=((0, 0, 0), pieces[1]), m=997, many=11)

    def test_the_limits_at_their_ends(self):
        case = self.many_ends(0)
        for limit, ok in ((500, False), (1023, False), (1024, True), (2000, True)):
            if ok:
                self.assertEqual(ends_of(tree(case, limit)), 1024)
                self.assertEqual(sum(counted(case, limit)), 2048)
            else:
                with self.assertRaises(TooMany):
                    tree(case, limit)
        with self.assertRaises(TooMany):
            tree(case)
        # One, ten and forty-five ways of ten pieces have none, one and two faulty ones.
        case = self.many_ends(3)
        self.assertEqual(ends_of(tree(case, 1080)), 1080)
        with self.assertRaises(TooMany):
            tree(case, 1079)

    def test_far_too_many_are_told_soon(self):
        rows = [("take", "b", 0)]
        for piece in range(1, 29):
            rows += [("take", "a", piece), ("sum", "b", "b", "a")]
        case = self.case(
            rows, sound=((0, 0, 0), (0,) * 40), faulty=((0, 0, 0), (1,) * 40), many=40, m=997, mark="b",
        )
        for call in (tree, counted):
            for limit in (1, 500, 2000):
                with self.assertRaises(TooMany):
                    call(case, limit)

    def test_no_case_goes_first(self):
        case = (plan_of(self.ROWS), SOUND, SOUND, 3000)
        dry = (plan_of([("again", "a", ())] + self.ROWS), SOUND, FAULTY, 3000)
        for wrong in (case, dry):
            for call in (tree, counted):
                with self.assertRaises(NoCase):
                    call(wrong, 1)
            for thing in ANY_THINGS:
                with self.assertRaises(NoCase):
                    is_tree(wrong, thing)


class ManyThingsTest(TreesTest):
    def loop_case(self, many=40):
        """The pieces one by one till one is faulty: a tree of so many ends and one, one asking behind the other."""
        loop = (
            ("pick", "a", "i"), ("if", "a", (("put", "go", 0),), ()), ("sum", "i", "i", "one"), ("same", "b", "i", "all"),
            ("if", "b", (("put", "go", 0),), ()),
        )
        names = ("a", "b", "i", "go", "one", "all")
        plan = (997, names, many, (("again", "go", loop),), "i")
        self.assertTrue(is_plan(plan))
        sound = ((0, 0, 0, 1, 1, many), (0,) * many)
        return (plan, sound, (sound[0], (1,) * many), 3000)

    def test_forty_askings_one_behind_the_other(self):
        case = self.loop_case()
        wanted = end(40)
        for piece in reversed(range(40)):
            wanted = ask(piece, wanted, piece + 1)
        self.assertEqual(tree(case, 41), wanted)
        with self.assertRaises(TooMany):
            tree(case, 40)
        self.assertIs(is_tree(case, wanted), True)
        # The last piece makes no matter.
        self.assertEqual(counted(case, 41), (2, 2 ** 39, 2 ** 39 - 2))

    def deep_case(self):
        """Twelve names and forty pieces that are all asked, each only where all ahead are sound."""
        names = tuple("abcdefghijkl")
        rows = [("if", "l", (("if", name, (("put", "l", 0),), ()),), ()) for name in names[:11]]
        rows += [("put", "c", 1), ("put", "d", 40), ("put", "e", 0)]
        loop = (
            ("pick", "a", "b"), ("if", "a", (("put", "l", 0),), ()), ("sum", "b", "b", "c"), ("same", "e", "b", "d"),
            ("if", "e", (("put", "l", 0),), ()),
        )
        plan = (997, names, 40, tuple(rows) + (("again", "l", loop),), "e")
        self.assertTrue(is_plan(plan))
        return (plan, ((0,) * 11 + (1,), (0,) * 40), ((1,) * 11 + (0,), (1,) * 40), 3000)

    def test_fifty_two_askings_one_behind_the_other(self):
        case = self.deep_case()
        wanted = ask(39, 1, 1)
        for thing in reversed(["l"] + list("abcdefghijk") + list(range(39))):
            wanted = ask(thing, wanted, 0)
        self.assertEqual(deepest(wanted), 52)
        self.assertEqual(tree(case, 53), wanted)
        with self.assertRaises(TooMany):
            tree(case, 52)
        self.assertIs(is_tree(case, wanted), True)
        self.assertEqual(counted(case), (2, 2 ** 52 - 2, 0))
        for thing in (comb(52), comb(52, left=True), wanted[2], ask("l", wanted, 0), ask("l", wanted[2], 1)):
            self.assertIs(is_tree(case, thing), False)

    def test_few_asked_of_fifty_one(self):
        names = tuple("abcdefghijkl")
        rows = (("put", "a", 0),)
        for name in reversed(names[1:5]):
            rows = (("if", name, (), rows),)
        case = ((2, names, 40, rows, "a"), ((1,) + (0,) * 11, (0,) * 40), ((1,) + (1,) * 11, (1,) * 40), 9)
        self.assertTrue(is_plan(case[0]))
        wanted = end(0)
        for name in reversed(names[1:5]):
            wanted = ask(name, wanted, 1)
        self.tree_is(case, wanted)
        self.assertEqual(counted(case), (2 ** 47, 2 ** 51 - 2 ** 47, 0))

    def test_few_asked_of_more_than_thirty(self):
        rows = [("take", "a", 7), ("take", "b", 31), ("sum", "a", "a", "b"), ("put", "c", 1), ("sum", "a", "a", "c")]
        case = self.case(rows, sound=((1, 2, 3), (0,) * 40), faulty=((2, 3, 4), (1,) * 40), many=40)
        self.tree_is(case, ask(7, ask(31, 1, 2), ask(31, 2, 3)))
        self.assertEqual(counted(case), (2 ** 41, 2 ** 41, 2 ** 42))
        self.assertEqual(tree(case, 4), tree(case, 2000))


def comb(many, left=False):
    """So many askings one behind the other, of names and then pieces."""
    things = (list("abcdefghijkl") + list(range(40)))[:many]
    told = end(0)
    for thing in reversed(things):
        told = ask(thing, 1, told) if left else ask(thing, told, 1)
    return told


class IsTreeTest(TreesTest):
    ROWS = [("if", "b", (("take", "a", 0), ("take", "c", 1), ("sum", "a", "a", "c")), (("sum", "a", "a", "c"),))]

    def setUp(self):
        self.one = self.case(self.ROWS, sound=((0, 1, 1), (0, 0, 0)), faulty=((1, 0, 2), (1, 1, 1)), m=4)
        self.whole = ask("b", ask(0, ask(1, 0, 1), ask(1, 1, 2)), ask("a", ask("c", 1, 2), ask("c", 2, 3)))

    def wrong(self, thing):
        self.assertIs(is_tree(self.one, thing), False, thing)

    def test_the_tree_itself(self):
        self.tree_is(self.one, self.whole)

    def each_part(self, change):
        """Each thing that has one part of the whole changed."""
        def changed(told):
            yield from change(told)
            if isinstance(told, tuple) and told[0] == "ask":
                yield from (told[:2] + (side, told[3]) for side in changed(told[2]))
                yield from (told[:3] + (side,) for side in changed(told[3]))
        return list(changed(self.whole))

    def test_another_end(self):
        ends = self.each_part(lambda told: [end(mark) for mark in (9, -1, None, "0", (0,), [0])] if told[0] == "end" else [])
        self.assertEqual(len(ends), 48)
        ends += self.each_part(lambda told: [end(told[1] + 1), end(told[1] - 1)] if told[0] == "end" else [])
        ends += self.each_part(lambda told: [told + (0,), told[:1], (told[0].upper(), told[1])] if told[0] == "end" else [])
        for thing in ends:
            self.wrong(thing)

    def test_truths_in_the_stead_of_numbers(self):
        things = self.each_part(lambda told: [(told[0], bool(told[1])) + told[2:]] if told[1] in (0, 1) else [])
        self.assertGreater(len(things), 6)
        for thing in things:
            self.wrong(thing)

    def test_another_thing(self):
        for other in ("a", "b", "c", "d", 0, 1, 2, None, (), [], ("b",), ["b"], 10 ** 59):
            for thing in self.each_part(lambda told: [("ask", other) + told[2:]] if told[0] == "ask" and told[1] != other else []):
                self.wrong(thing)

    def test_sides_turned_about(self):
        for thing in self.each_part(lambda told: [told[:2] + (told[3], told[2])] if told[0] == "ask" else []):
            self.wrong(thing)

    def test_an_asking_more_or_fewer(self):
        for thing in self.each_part(lambda told: [ask(other, told, told) for other in ("a", "b", "c", 0, 1, 2)]):
            self.wrong(thing)
        for thing in self.each_part(lambda told: [told[2], told[3], told[:3], told + (told[3],), told[1:]] if told[0] == "ask" else []):
            self.wrong(thing)

    def test_lists_in_the_stead_of_tuples(self):
        for thing in self.each_part(lambda told: [list(told)]):
            self.wrong(thing)

    def test_any_thing_anywhere(self):
        for other in ANY_THINGS:
            for thing in self.each_part(lambda told: [other] if repr(other) != repr(told) else []):
                self.wrong(thing)
            for thing in self.each_part(lambda told: [(other,) + told[1:]] if repr(other) != repr(told[0]) else []):
                self.wrong(thing)
            for thing in self.each_part(lambda told: [(told[0], other) + told[2:]] if repr(other) != repr(told[1]) else []):
                self.wrong(thing)

    def test_deep_things(self):
        for many in (1, 12, 13, 51, 52):
            self.wrong(comb(many))
            self.wrong(comb(many, left=True))
        shared = end(0)
        for _ in range(52):
            shared = ("ask", "b", shared, shared)
        self.wrong(shared)

    def test_a_dry_end_is_none(self):
        rows = [("sum", "a", "b", "c"), ("put", "b", 6), ("same", "b", "a", "b"), ("again", "b", ())]
        case = self.case(rows, sound=((0, 1, 3), (0, 0, 0)), faulty=((0, 2, 5), (0, 0, 0)), most=30)
        self.assertIs(is_tree(case, ask("b", ask("c", 4, None), ask("c", 5, 7))), True)
        for other in (0, 6, False, "", ()):
            self.assertIs(is_tree(case, ("ask", "b", ("ask", "c", end(4), end(other)), ask("c", 5, 7))), False)

    def test_no_limit(self):
        case = LimitTest.many_ends(self, 3)
        whole = tree(case, 2000)
        self.assertIs(is_tree(case, whole), True)
        self.assertIs(is_tree(case, whole[:3] + (whole[2],)), False)


class MarkByTest(unittest.TestCase):
    def test_by_hand(self):
        whole = ask("b", ask(0, 1, 2), ask("a", None, ask(1, 7, "x")))
        told = {
            (): 1, (0,): 2, ("a", 1): 1, ("b",): None, ("b", 0): None, ("a", "b"): 7, ("a", "b", 1): "x", ("a", "b", 0): 7,
        }
        for mix, wanted in told.items():
            self.assertEqual(repr(mark_by(whole, list(mix))), repr(wanted))
        self.assertEqual(mark_by(end(3), ["a"]), 3)
        self.assertIsNone(mark_by(end(None), []))

    def test_deep_ones(self):
        self.assertEqual(mark_by(comb(52), []), 0)
        self.assertEqual(mark_by(comb(52), [39]), 1)
        self.assertEqual(mark_by(comb(52, left=True), list("abcdefghijkl") + list(range(40))), 0)

    def test_made_cases(self):
        for case in made_cases(range(300), 60):
            whole = tree(case)
            for mix in all_mixes(case):
                wanted = marked_otherwise(case[0], stand_otherwise(case, mix), case[3])
                self.assertEqual(repr(mark_by(whole, mix)), repr(wanted))


class CountedTest(TreesTest):
    def test_each_verdict(self):
        rows = [("sum", "a", "b", "c"), ("put", "b", 6), ("same", "b", "a", "b"), ("again", "b", ())]
        case = self.case(rows, sound=((0, 1, 3), (0, 0, 0)), faulty=((0, 2, 5), (0, 0, 9)), most=30)
        self.assertEqual(repr(counted(case)), "(2, 2, 4)")
        self.assertEqual(repr(counted(self.case([("take", "a", 1)]))), "(32, 32, 0)")

    def test_made_cases(self):
        for case in made_cases(range(300), 60):
            plan, sound, faulty, most = case
            marks = Counter(marked_otherwise(plan, stand_otherwise(case, mix), most) for mix in all_mixes(case))
            two = [marks[marked_otherwise(plan, stand, most)] for stand in (sound, faulty)]
            self.assertEqual(repr(counted(case)), repr((*two, sum(marks.values()) - sum(two))))

    def test_many_unlike_things(self):
        case = ((2, ("a", "b"), 40, (("take", "a", 39),), "a"), ((0, 0), (0,) * 40), ((1, 1), (1,) * 40), 1)
        self.assertEqual(counted(case), (2 ** 41, 2 ** 41, 0))


class MadeCasesTest(unittest.TestCase):
    def test_as_told_in_another_way(self):
        deep = dry = 0
        for most in (60, 9, 6):
            for case in made_cases(range(400), most):
                wanted = tree_otherwise(case)
                self.assertEqual(repr(tree(case)), repr(wanted))
                self.assertIs(is_tree(case, wanted), True)
                ends = ends_of(wanted)
                self.assertEqual(tree(case, ends), wanted)
                with self.assertRaises(TooMany):
                    tree(case, ends - 1)
                deep += deepest(wanted) > 2
                dry += "None" in repr(wanted)
        self.assertGreater(deep, 80)
        self.assertGreater(dry, 30)


class NothingKeptTest(unittest.TestCase, TellsAnew):
    def test_what_is_handed_in_is_as_it_was(self):
        for case in list(made_cases(range(60), 60)):
            self.tells_anew(tree, case)
            self.tells_anew(counted, case, 400)
            self.tells_anew(is_tree, case, tree(case))
            self.tells_anew(is_tree, case, [["ask", [0]], "a"])
            for mix in all_mixes(case)[:5]:
                self.tells_anew(mark_by, tree(case), mix)


if __name__ == "__main__":
    unittest.main()
