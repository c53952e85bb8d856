import unittest

from tests.helper import (
    ANY_THINGS, Sources, TellsAnew, made_pairs, made_plan, marked_otherwise, other_stand, plan_of, run_otherwise,
    unlike_otherwise,
)
from twinstride.beside import chain, first_parting, is_chain, partings, unlike
from twinstride.errors import NoCase, NoPlace
from twinstride.plans import is_plan
from twinstride.trails import froms

ONE = ((4, 7, 0), (5, 6, 8))
ENDLESS = [("again", "a", ())]


def partings_otherwise(plan, one, other, most):
    steps = [dict(run_otherwise(plan, stand, most)[0]) for stand in (one, other)]
    places = sorted(set(steps[0]) | set(steps[1]))
    told = [(place, steps[0].get(place), steps[1].get(place)) for place in places]
    return [parting for parting in told if parting[1] != parting[2]]


def is_chain_otherwise(plan, one, other, most, place, thing):
    """What is_chain must tell, word by word as point 13 has it."""
    sources = [Sources(plan, stand, most) for stand in (one, other)]
    parted = [parting[0] for parting in partings_otherwise(plan, one, other, most)]
    if place is None and marked_otherwise(plan, one, most) == marked_otherwise(plan, other, most):
        return False
    if place is not None and repr(place) not in [repr(one) for one in parted]:
        return False
    if type(thing) is not tuple or len(thing) != 2 or type(thing[1]) is not list:
        return False
    if repr(thing[0]) not in [repr(one) for one in unlike_otherwise(plan, one, other)]:
        return False
    if any(repr(at) not in [repr(one) for one in parted] for at in thing[1]):
        return False
    links = thing[1] + [None] * (place is None)
    if not links or links[-1] != place:
        return False

    def of(at):
        return set().union(*(source.of.get(at, set()) for source in sources))

    return thing[0] in of(links[0]) and all(ahead in of(at) for ahead, at in zip(links, links[1:]))


class BesideTest(unittest.TestCase):
    def plan(self, rows, **more):
        plan = plan_of(rows, **more)
        self.assertTrue(is_plan(plan))
        return plan

    def told(self, call, rows, other, *rest, one=ONE, most=3000, **more):
        return repr(call(self.plan(rows, **more), one, other, most, *rest))


class UnlikeTest(BesideTest):
    def unlike_are(self, one, other, things, **more):
        self.assertEqual(repr(unlike(self.plan([], **more), one, other)), repr(things))

    def test_alike_stands(self):
        self.unlike_are(ONE, ONE, [])
        self.unlike_are(((0,), ()), ((0,), ()), [], names=("a",), many=0)

    def test_names_then_pieces(self):
        self.unlike_are(ONE, ((4, 8, 1), (5, 0, 9)), ["b", "c", 1, 2])
        self.unlike_are(ONE, ((0, 7, 0), (0, 6, 8)), ["a", 0])
        self.unlike_are(ONE, ((5, 8, 1), (6, 7, 9)), ["z", "b", "a", 0, 1, 2], names=("z", "b", "a"))

    def test_turned_about(self):
        other = ((4, 8, 1), (5, 0, 9))
        self.unlike_are(other, ONE, ["b", "c", 1, 2])

    def test_dry_runs_are_no_matter(self):
        self.assertEqual(unlike(plan_of(ENDLESS), ONE, ((4, 7, 0), (5, 6, 0))), [2])


class PartingsTest(BesideTest):
    def partings_are(self, rows, other, wanted, **more):
        self.assertEqual(self.told(partings, rows, other, **more), repr(wanted))
        turned = [(place, theirs, ours) for place, ours, theirs in wanted]
        self.assertEqual(self.told(partings, rows, more.pop("one", ONE), one=other, **more), repr(turned))

    def test_alike_stands(self):
        self.partings_are([("take", "a", 0), ("if", "a", (("put", "b", 1),), ())], ONE, [])
        self.partings_are([], ((1, 1, 1), (1, 1, 1)), [])

    def test_unlike_numbers(self):
        rows = [("take", "a", 0), ("take", "b", 1), ("sum", "c", "a", "b")]
        self.partings_are(rows, ((4, 7, 0), (5, 7, 8)), [((1,), 6, 7), ((2,), 1, 2)])

    def test_unlike_things_that_make_no_parting(self):
        self.partings_are([("put", "a", 0), ("same", "b", "a", "a"), ("if", "c", (), ())], ((1, 2, 0), (9, 9, 9)), [])
        self.partings_are([("if", "b", (("put", "a", 1),), ())], ((4, 1, 0), (5, 6, 8)), [])

    def test_ifs_gone_differently(self):
        rows = [("if", "c", (("put", "b", 1), ("put", "a", 1)), (("put", "b", 1),)), ("put", "a", 2)]
        wanted = [((0,), 0, 1), ((0, 0, 0), 1, None), ((0, 1, 0), None, 1), ((0, 1, 1), None, 1)]
        self.partings_are(rows, ((4, 7, 3), (5, 6, 8)), wanted)

    def test_runs_of_unlike_length(self):
        rows = [("again", "c", (("sum", "c", "c", "b"), ("put", "a", 1)))]
        wanted = [((0, 0), 0, 1), ((0, 0, 0), None, 0), ((0, 0, 1), None, 1), ((0, 1), None, 0)]
        self.partings_are(rows, ((4, 9, 1), (5, 6, 8)), wanted, one=((4, 9, 0), (5, 6, 8)))
        wanted = [((0, 0, 0), 0, 1), ((0, 1), 0, 1), ((0, 1, 0), None, 0), ((0, 1, 1), None, 1), ((0, 2), None, 0)]
        self.partings_are(rows, ((4, 9, 2), (5, 6, 8)), wanted, one=((4, 9, 1), (5, 6, 8)))

    def test_a_number_of_nought_beside_none(self):
        self.partings_are([("if", "c", (("put", "b", 0),), ())], ((4, 7, 1), (5, 6, 8)), [((0,), 0, 1), ((0, 1, 0), None, 0)])

    def test_made_plans(self):
        found = 0
        for plan, one, other in made_pairs(range(300), 200):
            wanted = partings_otherwise(plan, one, other, 200)
            self.assertEqual(repr(partings(plan, one, other, 200)), repr(wanted))
            found += len(wanted) > 3
        self.assertGreater(found, 40)


class FirstPartingTest(BesideTest):
    def first_is(self, rows, other, wanted, **more):
        self.assertEqual(self.told(first_parting, rows, other, **more), repr(wanted))
        one = more.pop("one", ONE)
        self.assertEqual(self.told(first_parting, rows, one, one=other, **more), repr(wanted))

    def test_none(self):
        self.first_is([("take", "a", 0)], ONE, None)
        self.first_is([("take", "a", 0)], ((1, 1, 1), (5, 0, 0)), None)
        self.first_is([], ((1, 1, 1), (1, 1, 1)), None)

    def test_each_sort_of_row(self):
        other = ((5, 8, 1), (6, 7, 9))
        self.first_is([("take", "c", 1)], other, ((0,), [1]))
        for word in ("sum", "by"):
            self.first_is([(word, "c", "b", "a")], other, ((0,), ["a", "b"]))
        self.first_is([("less", "c", "c", "a")], ((0, 7, 0), (5, 6, 8)), ((0,), ["a"]))
        self.first_is([("same", "c", "b", "a")], ((7, 7, 0), (5, 6, 8)), ((0,), ["a"]))
        self.first_is([("if", "c", (), ())], other, ((0,), ["c"]))
        self.first_is([("put", "b", 9), ("again", "c", (("put", "c", 0),))], other, ((1, 0), ["c"]))

    def test_things_that_are_alike_are_not_told(self):
        self.first_is([("sum", "c", "a", "b")], ((4, 8, 0), (5, 6, 8)), ((0,), ["b"]))

    def test_a_pick_by_an_unlike_name(self):
        # The one reads piece 1, the other piece 2: these are not read in both runs.
        self.first_is([("pick", "c", "b")], ((4, 8, 0), (1, 2, 3)), ((0,), ["b"]))
        # Both read piece 1, though by unlike numbers.
        self.first_is([("pick", "c", "b")], ((4, 1, 0), (1, 2, 3)), ((0,), ["b", 1]))
        self.first_is([("pick", "c", "b")], ((4, 7, 0), (1, 2, 3)), ((0,), [1]))

    def test_an_unlike_thing_read_ahead_without_a_parting(self):
        rows = [("less", "c", "a", "b"), ("sum", "c", "c", "a"), ("sum", "c", "c", "b")]
        self.first_is(rows, ((3, 8, 0), (5, 6, 8)), ((1,), ["a"]))

    def test_within_branches(self):
        rows = [("if", "a", (("put", "b", 1), ("take", "c", 2)), ())]
        self.first_is(rows, ((3, 7, 0), (5, 6, 9)), ((0, 1, 1), [2]))

    def test_made_plans(self):
        found = 0
        for plan, one, other in made_pairs(range(300), 200):
            told = first_parting(plan, one, other, 200)
            parted = partings_otherwise(plan, one, other, 200)
            if not parted:
                self.assertIsNone(told)
                continue
            self.assertEqual(told[0], parted[0][0])
            self.assertIsNotNone(parted[0][1])
            self.assertIsNotNone(parted[0][2])
            both = [Sources(plan, stand, 200).froms(told[0])[1] for stand in (one, other)]
            wanted = [thing for thing in unlike_otherwise(plan, one, other) if thing in both[0] and thing in both[1]]
            self.assertEqual(repr(told), repr((parted[0][0], wanted)))
            self.assertTrue(wanted)
            found += 1
        self.assertGreater(found, 60)


class DryTest(BesideTest):
    def test_no_case(self):
        plan = self.plan([("again", "a", ()), ("put", "b", 1)])
        wet = ((0, 7, 0), (5, 6, 8))
        for stands in ((ONE, wet), (wet, ONE), (ONE, ONE)):
            for call in (partings, first_parting):
                with self.assertRaises(NoCase):
                    call(plan, *stands, 3000)
            for place in (None, (0, 0), (9,)):
                with self.assertRaises(NoCase):
                    chain(plan, *stands, 3000, place)
                with self.assertRaises(NoCase):
                    is_chain(plan, *stands, 3000, place, ("a", [(0, 0)]))

    def test_a_most_that_just_suffices(self):
        plan = self.plan([("take", "a", 0), ("if", "c", (("put", "b", 1),), ())])
        other = ((4, 7, 1), (6, 6, 8))
        self.assertEqual(partings(plan, ONE, other, 3), [((0,), 5, 6), ((1,), 0, 1), ((1, 1, 0), None, 1)])
        for stands in ((ONE, other), (other, ONE)):
            for call in (partings, first_parting):
                with self.assertRaises(NoCase):
                    call(plan, *stands, 2)


class ChainTest(BesideTest):
    def leads(self, rows, other, place, *wanted, **more):
        """The chain that is told is one of those wanted, and all of these are chains."""
        told = self.told(chain, rows, other, place, **more)
        self.assertIn(told, [repr(one) for one in wanted])
        for one in wanted:
            self.assertEqual(self.told(is_chain, rows, other, place, one, **more), "True")

    def no_place(self, rows, other, *places, **more):
        for place in places:
            with self.subTest(place=place), self.assertRaises(NoPlace):
                self.told(chain, rows, other, place, **more)
            for thing in ANY_THINGS + (("a", [place]), ("b", []), (0, [])):
                self.assertEqual(self.told(is_chain, rows, other, place, thing, **more), "False")

    def test_a_step_that_reads_the_thing(self):
        self.leads([("take", "a", 1)], ((4, 7, 0), (5, 7, 8)), (0,), (1, [(0,)]))
        other = ((5, 9, 0), (5, 6, 8))
        self.leads([("sum", "a", "b", "a")], other, (0,), ("a", [(0,)]), ("b", [(0,)]))

    def test_through_partings(self):
        rows = [("take", "a", 1), ("put", "b", 1), ("sum", "b", "a", "b"), ("by", "c", "b", "b")]
        self.leads(rows, ((4, 7, 0), (5, 7, 8)), (3,), (1, [(0,), (2,), (3,)]))

    def test_through_a_look(self):
        rows = [("take", "a", 1), ("if", "a", (("put", "c", 4),), ()), ("sum", "b", "c", "c")]
        other = ((4, 7, 0), (5, 0, 8))
        self.leads(rows, other, (1,), (1, [(0,), (1,)]))
        self.leads(rows, other, (1, 1, 0), (1, [(0,), (1,), (1, 1, 0)]))
        self.leads(rows, other, (2,), (1, [(0,), (1,), (2,)]), (1, [(0,), (1,), (1, 1, 0), (2,)]))

    def test_through_the_branch_that_was_not_done(self):
        # b is set in the other run alone; in this one it comes from the look.
        rows = [("if", "c", (("put", "b", 6),), ()), ("sum", "a", "b", "b")]
        self.leads(rows, ((4, 7, 1), (5, 6, 8)), (1,), ("c", [(0,), (1,)]), ("c", [(0,), (0, 1, 0), (1,)]))

    def test_links_in_either_run(self):
        # (0, 1, 0) stands in the other run alone, (0, 0, 0) in this one alone; both come into a.
        rows = [("if", "c", (("put", "b", 4),), (("put", "b", 6),)), ("sum", "a", "b", "b")]
        wanted = [("c", [(0,), at, (1,)]) for at in ((0, 0, 0), (0, 1, 0))]
        self.leads(rows, ((4, 7, 1), (5, 6, 8)), (1,), ("c", [(0,), (1,)]), *wanted)

    def test_through_rounds(self):
        rows = [("again", "c", (("sum", "c", "c", "b"),))]
        one, other = ((4, 9, 1), (5, 6, 8)), ((4, 9, 2), (5, 6, 8))
        at = (0, 0, 0)
        self.leads(rows, other, (0, 1), ("c", [at, (0, 1)]), one=one)
        self.leads(
            rows, other, (0, 2), ("c", [at, (0, 1), (0, 2)]), ("c", [at, (0, 1), (0, 1, 0), (0, 2)]),
            ("c", [at, (0, 1, 0), (0, 2)]), one=one,
        )

    def test_to_none(self):
        rows = [("take", "a", 1), ("sum", "a", "a", "a")]
        self.leads(rows, ((4, 7, 0), (5, 7, 8)), None, (1, [(0,), (1,)]))

    def test_to_none_from_the_marks_name_never_set(self):
        other = ((5, 7, 0), (5, 6, 8))
        self.leads([], other, None, ("a", []))
        self.leads([("put", "b", 1)], other, None, ("a", []))
        self.leads([("if", "c", (("put", "a", 1),), ())], other, None, ("a", []))

    def test_to_none_set_in_one_run_alone(self):
        rows = [("if", "c", (("put", "a", 1),), ())]
        other = ((4, 7, 1), (5, 6, 8))
        self.leads(rows, other, None, ("c", [(0,)]), ("c", [(0,), (0, 1, 0)]))
        other = ((3, 7, 1), (5, 6, 8))
        self.leads(rows, other, None, ("a", []), ("c", [(0,)]), ("c", [(0,), (0, 1, 0)]))

    def test_none_with_alike_marks(self):
        self.no_place([("take", "b", 1)], ((4, 7, 0), (5, 7, 8)), None)
        self.no_place([("put", "a", 1)], ((5, 7, 0), (5, 6, 8)), None)
        self.no_place([], ONE, None)

    def test_no_parting(self):
        rows = [("take", "a", 1), ("put", "b", 1), ("if", "c", (("put", "b", 1),), ())]
        self.no_place(rows, ((4, 7, 0), (5, 7, 8)), (1,), (2,), (2, 1, 0), (3,), (), (0, 0), (-1,))
        self.no_place(rows, ONE, (0,), (1,), None)

    def test_made_plans(self):
        found = ends = 0
        for plan, one, other in made_pairs(range(250), 120):
            places = [parting[0] for parting in partings_otherwise(plan, one, other, 120)]
            places = places[:4] + places[4::9]
            if marked_otherwise(plan, one, 120) != marked_otherwise(plan, other, 120):
                places.append(None)
                ends += 1
            for place in places:
                told = chain(plan, one, other, 120, place)
                self.assertTrue(is_chain_otherwise(plan, one, other, 120, place, told), (plan, one, other, place, told))
                self.assertIs(is_chain(plan, one, other, 120, place, told), True)
                self.assertEqual(told[1], sorted(told[1]))
                found += 1
        self.assertGreater(found, 300)
        self.assertGreater(ends, 40)


class LongRunsTest(BesideTest):
    def test_some_hundred_rounds(self):
        rows = [("put", "b", 996), ("again", "c", (("sum", "c", "c", "b"), ("sum", "a", "a", "c")))]
        plan = self.plan(rows, m=997)
        one, other = ((3, 1, 900), (5, 6, 8)), ((3, 1, 901), (5, 6, 8))
        told = partings(plan, one, other, 3000)
        self.assertEqual(repr(told), repr(partings_otherwise(plan, one, other, 3000)))
        for place in (told[-1][0], told[1500][0]):
            found = chain(plan, one, other, 3000, place)
            self.assertEqual(found[0], "c")
            self.assertIs(is_chain(plan, one, other, 3000, place, found), True)
            self.assertTrue(is_chain_otherwise(plan, one, other, 3000, place, found))
        self.assertEqual(first_parting(plan, one, other, 3000), ((1, 0, 0), ["c"]))


class IsChainTest(BesideTest):
    ROWS = [
        ("take", "a", 1), ("if", "a", (("sum", "c", "a", "b"),), ()), ("sum", "b", "c", "c"), ("take", "a", 0),
        ("sum", "a", "a", "b"),
    ]
    OTHER = ((4, 8, 1), (1, 0, 8))
    PLACES = ((0,), (1,), (1, 1, 0), (2,), (3,), (4,))

    def same(self, place, thing):
        plan = self.plan(self.ROWS)
        wanted = is_chain_otherwise(plan, ONE, self.OTHER, 3000, place, thing)
        self.assertIs(is_chain(plan, ONE, self.OTHER, 3000, place, thing), wanted, (place, thing))
        return wanted

    def test_all_lists_of_places(self):
        lists = [[]]
        for place in self.PLACES:
            lists += [one + [place] for one in lists]
        truths = 0
        for place in self.PLACES + (None,):
            for places in lists:
                for thing in ("a", "b", "c", 0, 1, 2):
                    truths += self.same(place, (thing, places))
        self.assertGreater(truths, 20)

    def test_places_out_of_order_and_twice(self):
        good = (1, [(0,), (1,), (2,)])
        self.assertTrue(self.same((2,), good))
        for places in ([(1,), (0,), (2,)], [(0,), (0,), (1,), (2,)], [(0,), (1,), (2,), (2,)], [(2,), (1,), (0,)]):
            self.assertFalse(self.same((2,), (1, places)))
        self.assertFalse(self.same((2,), (1, [(0,), (1,), (2,), (4,)])))
        self.assertFalse(self.same((2,), (1, [(0,), (1,)])))

    def test_things_of_every_sort(self):
        for place in self.PLACES + (None, (9,), ()):
            for thing in ANY_THINGS:
                self.same(place, thing)

    def test_truths_in_the_stead_of_numbers(self):
        self.assertTrue(self.same((0,), (1, [(0,)])))
        self.assertFalse(self.same((0,), (True, [(0,)])))
        self.assertFalse(self.same((0,), (1, [(False,)])))
        self.assertTrue(self.same((1,), (1, [(0,), (1,)])))
        self.assertFalse(self.same((1,), (1, [(0,), (True,)])))
        self.assertFalse(self.same((1, 1, 0), (1, [(0,), (1,), (1, True, 0)])))
        self.assertTrue(self.same((3,), (0, [(3,)])))
        self.assertFalse(self.same((3,), (False, [(3,)])))

    def test_lists_in_the_stead_of_tuples_and_the_other_way(self):
        self.assertTrue(self.same((1,), (1, [(0,), (1,)])))
        for thing in ([1, [(0,), (1,)]], (1, ((0,), (1,))), (1, [[0], (1,)]), (1, [(0,), [1]]), (1, [(0,), (1,)], ())):
            self.assertFalse(self.same((1,), thing))

    def test_any_thing_at_any_depth(self):
        good = (1, [(0,), (1,), (1, 1, 0)])
        self.assertTrue(self.same((1, 1, 0), good))
        for thing in ANY_THINGS:
            self.same((1, 1, 0), (thing, good[1]))
            self.same((1, 1, 0), (1, thing))
            self.same((1, 1, 0), (good, thing))
            for number in range(3):
                self.same((1, 1, 0), (1, good[1][:number] + [thing] + good[1][number + 1:]))
            self.same((1, 1, 0), (1, [(0,), (1,), (1, thing, 0)]))
            self.same(None, (thing, []))
            self.same(None, (1, [thing]))
            self.same(None, (1, [None, thing]))

    def test_none_among_the_places(self):
        self.assertTrue(self.same(None, (0, [(3,), (4,)])))
        self.assertFalse(self.same(None, (0, [(3,), (4,), None])))
        self.assertFalse(self.same(None, (0, [None])))

    def test_an_alike_thing_is_none(self):
        # c's first number is unlike but not read; piece 2 is alike.
        self.assertFalse(self.same((1,), ("c", [(1,)])))
        self.assertFalse(self.same((0,), (2, [(0,)])))
        plan = self.plan([("sum", "c", "a", "b")])
        other = ((4, 8, 0), (5, 6, 8))
        self.assertIs(is_chain(plan, ONE, other, 9, (0,), ("b", [(0,)])), True)
        self.assertIs(is_chain(plan, ONE, other, 9, (0,), ("a", [(0,)])), False)

    def test_a_step_that_is_no_parting_is_no_link(self):
        rows = [("take", "b", 1), ("less", "c", "b", "a"), ("sum", "b", "c", "a")]
        plan = self.plan(rows)
        other = ((3, 7, 0), (5, 7, 8))
        self.assertEqual([one[0] for one in partings(plan, ONE, other, 9)], [(0,), (2,)])
        self.assertEqual(froms(plan, ONE, 9, (2,))[0], [(1,)])
        self.assertIs(is_chain(plan, ONE, other, 9, (2,), ("a", [(2,)])), True)
        self.assertIs(is_chain(plan, ONE, other, 9, (2,), (1, [(0,), (1,), (2,)])), False)
        self.assertIs(is_chain(plan, ONE, other, 9, (2,), (1, [(0,), (2,)])), False)
        self.assertIs(is_chain(plan, ONE, other, 9, (1,), ("a", [(1,)])), False)

    def test_made_plans(self):
        for plan, one, other in made_pairs(range(60), 40):
            parted = [parting[0] for parting in partings_otherwise(plan, one, other, 40)][:5]
            for place in parted + [None]:
                for thing in unlike_otherwise(plan, one, other):
                    for places in [[]] + [[at] for at in parted] + [[a, b] for a in parted for b in parted]:
                        wanted = is_chain_otherwise(plan, one, other, 40, place, (thing, places))
                        self.assertIs(is_chain(plan, one, other, 40, place, (thing, places)), wanted)


class NothingKeptTest(unittest.TestCase, TellsAnew):
    def test_what_is_told_is_the_askers_own(self):
        plan = plan_of(IsChainTest.ROWS)
        stands = (ONE, IsChainTest.OTHER)
        self.tells_anew(unlike, plan, *stands)
        self.tells_anew(partings, plan, *stands, 3000)
        self.tells_anew(first_parting, plan, *stands, 3000)
        self.tells_anew(first_parting, plan, ONE, ONE, 3000)
        for place in IsChainTest.PLACES + (None,):
            self.tells_anew(chain, plan, *stands, 3000, place)
            for thing in (("a", []), (1, [(0,)]), [[], [(0,)]]):
                self.tells_anew(is_chain, plan, *stands, 3000, place, thing)

    def test_nothing_hangs_on_what_was_asked_ahead(self):
        plan = plan_of(IsChainTest.ROWS)
        words = repr([call(plan, ONE, IsChainTest.OTHER, 30) for call in (partings, first_parting)])
        for seed in range(30):
            other, stand = made_plan(seed)
            unlike(other, stand, other_stand(seed, other, stand))
        for pair in made_pairs(range(20), 30):
            partings(*pair, 30)
            first_parting(*pair, 30)
        self.assertEqual(repr([call(plan, ONE, IsChainTest.OTHER, 30) for call in (partings, first_parting)]), words)


if __name__ == "__main__":
    unittest.main()
