import random
import unittest

from tests.helper import Sources, TellsAnew, made_plan, plan_of
from twinstride.errors import NoPlace
from twinstride.plans import is_plan
from twinstride.runs import run
from twinstride.trails import froms, is_closed, trail

STAND = ((4, 7, 0), (5, 6, 8))
LESS = ("sum", "c", "c", "b")


class TrailsTest(unittest.TestCase):
    def froms_are(self, rows, place, places, things, stand=STAND, most=3000, **more):
        plan = plan_of(rows, **more)
        self.assertTrue(is_plan(plan))
        self.assertEqual(repr(froms(plan, stand, most, place)), repr((places, things)))

    def trail_is(self, rows, place, places, things, stand=STAND, most=3000, **more):
        plan = plan_of(rows, **more)
        self.assertTrue(is_plan(plan))
        self.assertEqual(repr(trail(plan, stand, most, place)), repr((places, things)))

    def no_place(self, rows, place, stand=STAND, most=3000):
        for call in (froms, trail):
            with self.subTest(place=place), self.assertRaises(NoPlace):
                call(plan_of(rows), stand, most, place)


class FromsOfEachRowTest(TrailsTest):
    def test_put(self):
        self.froms_are([("put", "a", 1)], (0,), [], [])

    def test_take(self):
        self.froms_are([("take", "a", 2)], (0,), [], [2])
        self.froms_are([("take", "a", 0)], (0,), [], [0])

    def test_pick(self):
        self.froms_are([("pick", "a", "b")], (0,), [], ["b", 1])
        self.froms_are([("pick", "b", "b")], (0,), [], ["b", 1])
        self.froms_are([("put", "b", 5), ("pick", "a", "b")], (1,), [(0,)], [2])

    def test_sum_by_less_same(self):
        for word in ("sum", "by", "less", "same"):
            self.froms_are([(word, "c", "a", "b")], (0,), [], ["a", "b"])
            self.froms_are([(word, "c", "b", "a")], (0,), [], ["a", "b"])
            self.froms_are([(word, "a", "b", "b")], (0,), [], ["b"])
            self.froms_are([("put", "b", 1), (word, "b", "b", "a"), (word, "c", "b", "c")], (1,), [(0,)], ["a"])
            self.froms_are([("put", "b", 1), (word, "b", "b", "a"), (word, "c", "b", "c")], (2,), [(1,)], ["c"])

    def test_if(self):
        self.froms_are([("if", "a", (), ())], (0,), [], ["a"])
        self.froms_are([("put", "a", 0), ("if", "a", (), ())], (1,), [(0,)], [])

    def test_again(self):
        self.froms_are([("again", "c", ())], (0, 0), [], ["c"])
        self.froms_are([("put", "c", 0), ("again", "c", ())], (1, 0), [(0,)], [])

    def test_the_last_setting_alone(self):
        rows = [("put", "a", 1), ("put", "b", 1), ("put", "a", 2), ("sum", "c", "b", "a")]
        self.froms_are(rows, (3,), [(1,), (2,)], [])

    def test_x_itself_is_not_read(self):
        self.froms_are([("take", "a", 1), ("take", "a", 2)], (1,), [], [2])
        self.froms_are([("sum", "a", "b", "c")], (0,), [], ["b", "c"])

    def test_things_in_the_plans_order(self):
        names = ("z", "b", "a")
        self.froms_are([("sum", "a", "b", "z")], (0,), [], ["z", "b"], names=names)
        self.froms_are([("sum", "b", "a", "b")], (0,), [], ["b", "a"], names=names)
        rows = [("pick", "z", "b"), ("take", "a", 0), ("sum", "a", "a", "z")]
        self.trail_is(rows, (2,), [(0,), (1,), (2,)], ["b", 0, 1], names=names)


class FromsOfBranchesTest(TrailsTest):
    def test_a_row_of_either_branch_comes_from_the_look(self):
        rows = [("if", "a", (("put", "b", 1), ("put", "c", 1)), (("put", "b", 2), ("take", "c", 1)))]
        self.froms_are(rows, (0, 1, 0), [(0,)], [])
        self.froms_are(rows, (0, 1, 1), [(0,)], [])
        zero = ((0, 7, 0), (5, 6, 8))
        self.froms_are(rows, (0, 0, 0), [(0,)], [], stand=zero)
        self.froms_are(rows, (0, 0, 1), [(0,)], [1], stand=zero)

    def test_behind_an_if_that_sets_the_name(self):
        rows = [("if", "a", (("put", "b", 1),), ()), ("sum", "c", "b", "b")]
        self.froms_are(rows, (1,), [(0,), (0, 1, 0)], [])

    def test_behind_an_if_whose_other_branch_sets_the_name(self):
        rows = [("if", "a", (), (("put", "b", 1),)), ("sum", "c", "b", "b")]
        self.froms_are(rows, (1,), [(0,)], ["b"])
        rows = [("put", "b", 2)] + rows
        self.froms_are(rows, (2,), [(0,), (1,)], [])

    def test_behind_an_if_that_does_not_set_the_name(self):
        self.froms_are([("if", "a", (("put", "c", 1),), ()), ("sum", "c", "b", "b")], (1,), [], ["b"])

    def test_within_the_branch_the_look_is_no_origin_yet(self):
        rows = [("if", "a", (("put", "b", 1), ("if", "b", (("sum", "c", "b", "b"),), ())), ())]
        self.froms_are(rows, (0, 1, 1), [(0,), (0, 1, 0)], [])
        self.froms_are(rows, (0, 1, 1, 1, 0), [(0, 1, 0), (0, 1, 1)], [])

    def test_set_anew_behind_the_if(self):
        rows = [("if", "a", (("put", "b", 1),), ()), ("put", "b", 2), ("sum", "c", "b", "b")]
        self.froms_are(rows, (2,), [(1,)], [])

    def test_ifs_one_behind_the_other(self):
        rows = [("if", "a", (), (("put", "b", 1),)), ("if", "c", (("put", "b", 1),), ()), ("by", "c", "b", "b")]
        self.froms_are(rows, (2,), [(0,), (1,)], ["b"])

    def test_the_innermost_look_alone(self):
        rows = (("put", "b", 5),)
        for _ in range(4):
            rows = (("if", "a", rows, ()),)
        for depth in range(1, 5):
            place = (0,) + (1, 0) * depth
            self.froms_are(rows, place, [place[:-2]], ["a"] if depth < 4 else [])

    def test_left_ifs_within_one_another(self):
        rows = [("if", "a", (("if", "b", (("put", "c", 5),), ()),), ()), ("sum", "b", "c", "c")]
        self.froms_are(rows, (1,), [(0,), (0, 1, 0), (0, 1, 0, 1, 0)], [])
        rows = [("if", "a", (("if", "b", (), (("put", "c", 5),)),), ()), ("sum", "b", "c", "c")]
        self.froms_are(rows, (1,), [(0,), (0, 1, 0)], ["c"])


class FromsOfAgainsTest(TrailsTest):
    ROWS = [("again", "c", (LESS, ("take", "a", 1))), ("sum", "b", "a", "c")]
    TWO = ((4, 9, 2), (5, 6, 8))

    def test_the_looks(self):
        self.froms_are(self.ROWS, (0, 0), [], ["c"], stand=self.TWO)
        self.froms_are(self.ROWS, (0, 1), [(0, 0), (0, 0, 0)], [], stand=self.TWO)
        self.froms_are(self.ROWS, (0, 2), [(0, 1), (0, 1, 0)], [], stand=self.TWO)

    def test_the_rows_of_a_round(self):
        self.froms_are(self.ROWS, (0, 0, 0), [(0, 0)], ["b", "c"], stand=self.TWO)
        self.froms_are(self.ROWS, (0, 0, 1), [(0, 0)], [1], stand=self.TWO)
        self.froms_are(self.ROWS, (0, 1, 0), [(0, 0, 0), (0, 1)], ["b"], stand=self.TWO)

    def test_behind_it_the_last_look_besides(self):
        self.froms_are(self.ROWS, (1,), [(0, 1, 0), (0, 1, 1), (0, 2)], [], stand=self.TWO)
        self.froms_are(self.ROWS, (1,), [(0, 0)], ["a", "c"], stand=((4, 9, 0), (5, 6, 8)))

    def test_x_that_its_rows_do_not_set(self):
        rows = [("again", "a", (("put", "b", 1),))]
        self.froms_are(rows, (0, 3), [(0, 2)], ["a"], most=9)

    def test_one_within_an_if(self):
        rows = [("if", "a", (("again", "c", (LESS,)),), ())]
        self.froms_are(rows, (0, 1, 0, 0), [(0,)], ["c"], stand=self.TWO)
        self.froms_are(rows, (0, 1, 0, 1), [(0,), (0, 1, 0, 0), (0, 1, 0, 0, 0)], [], stand=self.TWO)
        self.froms_are(rows, (0, 1, 0, 0, 0), [(0, 1, 0, 0)], ["b", "c"], stand=self.TWO)

    def test_an_if_within_one(self):
        rows = [("again", "c", (LESS, ("if", "c", (("put", "a", 1),), ()))), ("sum", "a", "a", "a")]
        # In the first round a is set; in the second the if's look alone comes to its origins.
        self.froms_are(rows, (1,), [(0, 0, 1), (0, 0, 1, 1, 0), (0, 1, 1), (0, 2)], [], stand=self.TWO)
        self.froms_are(rows, (0, 1, 1), [(0, 1), (0, 1, 0)], [], stand=self.TWO)

    def test_one_within_another(self):
        rows = [("again", "c", (("put", "a", 1), ("again", "a", (("put", "a", 0),)), LESS))]
        self.froms_are(rows, (0, 1, 1, 0), [(0, 1), (0, 1, 0)], [], stand=self.TWO)
        self.froms_are(rows, (0, 1, 1, 1), [(0, 1), (0, 1, 1, 0), (0, 1, 1, 0, 0)], [], stand=self.TWO)
        self.froms_are(rows, (0, 1, 1, 0, 0), [(0, 1, 1, 0)], [], stand=self.TWO)
        self.froms_are(rows, (0, 1, 2), [(0, 0, 2), (0, 1)], ["b"], stand=self.TWO)


class TheEndTest(TrailsTest):
    def test_the_marks_name_as_it_first_stood(self):
        self.froms_are([], None, [], ["a"])
        self.trail_is([], None, [], ["a"])
        self.froms_are([("put", "b", 1)], None, [], ["a"])
        self.froms_are([("put", "a", 1)], None, [], ["c"], mark="c")

    def test_set_by_a_step(self):
        rows = [("take", "b", 2), ("sum", "a", "b", "c")]
        self.froms_are(rows, None, [(1,)], [])
        self.trail_is(rows, None, [(0,), (1,)], ["c", 2])

    def test_set_within_an_if(self):
        rows = [("if", "b", (), (("put", "a", 1),))]
        self.froms_are(rows, None, [(0,)], ["a"])
        self.trail_is(rows, None, [(0,)], ["a", "b"])

    def test_a_most_that_just_suffices(self):
        self.froms_are([("put", "a", 1)], None, [(0,)], [], most=1)
        self.froms_are([], None, [], ["a"], most=0)


class TrailTest(TrailsTest):
    def test_of_a_single_step(self):
        self.trail_is([("put", "a", 1)], (0,), [(0,)], [])
        self.trail_is([("take", "a", 1)], (0,), [(0,)], [1])

    def test_only_what_is_needed(self):
        rows = [("take", "a", 0), ("take", "b", 1), ("put", "c", 1), ("sum", "a", "a", "c"), ("by", "b", "b", "b")]
        self.trail_is(rows, (3,), [(0,), (2,), (3,)], [0])
        self.trail_is(rows, (4,), [(1,), (4,)], [1])
        self.trail_is(rows, (0,), [(0,)], [0])

    def test_through_looks(self):
        rows = [("take", "c", 1), ("if", "c", (("put", "b", 1),), ()), ("sum", "a", "b", "b")]
        self.trail_is(rows, (2,), [(0,), (1,), (1, 1, 0), (2,)], [1])
        self.trail_is(rows, None, [(0,), (1,), (1, 1, 0), (2,)], [1])
        self.trail_is(rows, (1, 1, 0), [(0,), (1,), (1, 1, 0)], [1])

    def test_through_rounds(self):
        rows = [("again", "c", (LESS,)), ("put", "a", 1)]
        stand = ((4, 9, 2), (5, 6, 8))
        self.trail_is(rows, (0, 2), [(0, 0), (0, 0, 0), (0, 1), (0, 1, 0), (0, 2)], ["b", "c"], stand=stand)
        self.trail_is(rows, (1,), [(1,)], [], stand=stand)

    def test_a_step_of_a_dry_run(self):
        rows = [("take", "b", 1), ("again", "a", (("sum", "b", "b", "c"),))]
        places = [(0,), (1, 0), (1, 0, 0), (1, 1), (1, 1, 0)]
        self.trail_is(rows, (1, 1, 0), places, ["a", "c", 1], most=5)
        self.trail_is(rows, (1, 1), [(1, 0), (1, 1)], ["a"], most=4)


class NoPlaceTest(TrailsTest):
    ROWS = [("put", "b", 1), ("if", "a", (("put", "b", 2),), (("put", "c", 2),)), ("again", "c", (LESS,))]

    def test_places_that_are_none(self):
        for place in [(), (3,), (-1,), (0, 0), (1, 1), (1, 1, 1), (1, 0, 0), (2,), (2, 1), (2, 0, 0), (0, 0, 0), (10 ** 59,)]:
            self.no_place(self.ROWS, place)

    def test_none_of_a_dry_run(self):
        for most in range(4):
            self.no_place(self.ROWS, None, most=most)
        self.assertEqual(froms(plan_of(self.ROWS), STAND, 4, None), ([], ["a"]))
        self.no_place([("again", "a", ())], None)

    def test_beyond_the_most_of_a_dry_run(self):
        self.assertEqual(froms(plan_of(self.ROWS), STAND, 3, (1, 1, 0)), ([(1,)], []))
        self.no_place(self.ROWS, (1, 1, 0), most=2)
        self.no_place(self.ROWS, (0,), most=0)
        self.no_place([("again", "a", ())], (0, 3000))
        self.assertEqual(froms(plan_of([("again", "a", ())]), STAND, 3000, (0, 2999)), ([(0, 2998)], ["a"]))

    def test_things_that_are_no_places(self):
        for place in ((True,), (False,), [0], "b", 0, True, ((0,),), (None,), ([],)):
            self.no_place(self.ROWS, place)


class LongRunsTest(TrailsTest):
    def test_some_hundred_rounds(self):
        # 900 rounds of three steps each; c comes down by one each round.
        rows = [("put", "b", 996), ("again", "c", (LESS, ("sum", "a", "a", "c")))]
        plan = plan_of(rows, m=997)
        stand = ((3, 1, 900), (5, 6, 8))
        steps = run(plan, stand, 3000)[0]
        self.assertEqual(len(steps), 2702)
        self.assertEqual(trail(plan, stand, 3000, None), ([place for place, _ in steps], ["a", "c"]))
        wanted = [place for place, _ in steps if place < (1, 500) and place[2:] != (1,)] + [(1, 500)]
        self.assertEqual(trail(plan, stand, 3000, (1, 500)), (wanted, ["c"]))
        self.assertEqual(froms(plan, stand, 3000, (1, 500)), ([(1, 499), (1, 499, 0)], []))

    def test_origins_that_grow_round_by_round(self):
        rows = [("again", "a", (("if", "c", (("put", "a", 0), ("put", "b", 0)), ()), ("sum", "c", "c", "c")))]
        plan = plan_of(rows)
        places = [place for place, _ in run(plan, STAND, 3000)[0]]
        self.assertEqual(len(places), 3000)
        told = froms(plan, STAND, 3000, (0, 999))
        looks = [(0, turn, 0) for turn in range(999)]
        self.assertEqual(told, (sorted(looks + [(0, 998)]), ["a"]))
        self.assertEqual(trail(plan, STAND, 3000, (0, 999))[1], ["a", "c"])
        self.assertTrue(is_closed(plan, STAND, 3000, places))


class IsClosedTest(unittest.TestCase):
    ROWS = [("take", "c", 1), ("if", "c", (("put", "b", 1),), ()), ("sum", "a", "b", "b"), ("take", "c", 2)]

    def told(self, places, truth, rows=ROWS, most=3000, stand=STAND):
        self.assertIs(is_closed(plan_of(rows), stand, most, places), truth)

    def test_none_and_all(self):
        self.told([], True)
        self.told([(0,), (1,), (1, 1, 0), (2,), (3,)], True)

    def test_trails(self):
        self.told([(0,)], True)
        self.told([(3,)], True)
        self.told([(0,), (1,)], True)
        self.told([(0,), (1,), (1, 1, 0), (2,)], True)

    def test_two_trails_put_together(self):
        self.told([(0,), (1,), (3,)], True)
        self.told([(0,), (3,)], True)

    def test_one_left_out(self):
        whole = [(0,), (1,), (1, 1, 0), (2,)]
        for left in whole[:-1]:
            self.told([place for place in whole if place != left], False)
        self.told([(1,)], False)
        self.told([(2,), (3,)], False)

    def test_of_a_dry_run(self):
        self.told([(0,), (1,)], True, most=2)
        self.told([(1,)], False, most=2)

    def test_made_plans(self):
        for seed in range(150):
            plan, stand = made_plan(seed)
            sources = Sources(plan, stand, 60)
            places = [place for place, _ in sources.steps]
            chance = random.Random(seed)
            self.assertIs(is_closed(plan, stand, 60, places), True)
            for _ in range(4):
                some = sorted(chance.sample(places, min(len(places), 2)))
                closed = sorted(set().union(*(sources.trail(place)[0] for place in some)))
                self.assertIs(is_closed(plan, stand, 60, closed), True)
                for left in closed[:6]:
                    rest = [place for place in closed if place != left]
                    truth = all(set(sources.froms(place)[0]) <= set(rest) for place in rest)
                    self.assertIs(is_closed(plan, stand, 60, rest), truth)


class MadePlansTest(unittest.TestCase):
    def places(self, seed, sources, how_many=12):
        places = list(sources.of)
        return random.Random(seed).sample(places, min(len(places), how_many)) + [None] * (not sources.dry)

    def test_as_told_in_another_way(self):
        for seed in range(250):
            plan, stand = made_plan(seed)
            for most in (3000, 25) if seed % 10 == 0 else (90,):
                sources = Sources(plan, stand, most)
                self.assertEqual(run(plan, stand, most)[0], sources.steps)
                for place in self.places(seed, sources, 4 if most == 3000 else 12):
                    with self.subTest(seed=seed, most=most, place=place):
                        self.assertEqual(repr(froms(plan, stand, most, place)), repr(sources.froms(place)))
                        self.assertEqual(repr(trail(plan, stand, most, place)), repr(sources.trail(place)))

    def test_they_have_deep_places_and_ends(self):
        all_sources = [Sources(*made_plan(seed), 90) for seed in range(250)]
        self.assertGreater(len([one for one in all_sources if not one.dry]), 100)
        self.assertGreater(len([one for one in all_sources if any(len(place) > 6 for place, _ in one.steps)]), 30)

    def test_the_trail_holds(self):
        """Whoever has the things read in a trail has its step and the same trail, or is dry ahead of it."""
        had = 0
        for seed in range(250):
            plan, stand = made_plan(seed)
            most = 80
            for place in self.places(seed, Sources(plan, stand, most), 3):
                told = trail(plan, stand, most, place)
                chance = random.Random(seed)
                for _ in range(3):
                    names = tuple(n if name in told[1] else chance.randrange(plan[0]) for name, n in zip(plan[1], stand[0]))
                    pieces = tuple(n if i in told[1] else chance.randrange(plan[0]) for i, n in enumerate(stand[1]))
                    had += self.holds(plan, stand, (names, pieces), most, place)
        self.assertGreater(had, 500)

    def holds(self, plan, stand, other, most, place):
        steps, end = run(plan, other, most)
        if place is None and end is None or place is not None and place not in dict(steps):
            # Dry ahead of it: the run is dry, and no step stands behind the place.
            self.assertIsNone(end)
            self.assertTrue(place is None or all(step[0] < place for step in steps))
            return 0
        if place is None:
            mark = plan[1].index(plan[4])
            self.assertEqual(end[mark], run(plan, stand, most)[1][mark])
        else:
            self.assertEqual(dict(steps)[place], dict(run(plan, stand, most)[0])[place])
        self.assertEqual(froms(plan, other, most, place), froms(plan, stand, most, place))
        self.assertEqual(trail(plan, other, most, place), trail(plan, stand, most, place))
        return 1


class NothingKeptTest(unittest.TestCase, TellsAnew):
    def test_what_is_told_is_the_askers_own(self):
        rows = [("pick", "c", "b"), ("again", "c", (("put", "a", 1), ("put", "c", 0)))]
        plan = plan_of(rows)
        for place in ((0,), (1, 0), (1, 0, 0), None):
            self.tells_anew(froms, plan, STAND, 3000, place)
            self.tells_anew(trail, plan, STAND, 3000, place)
        self.tells_anew(is_closed, plan, STAND, 3000, [(0,), (1, 0)])
        self.tells_anew(is_closed, plan, STAND, 3000, [(1, 0)])

    def test_made_plans(self):
        for seed in range(40):
            plan, stand = made_plan(seed)
            for place in list(Sources(plan, stand, 30).of)[:5]:
                self.tells_anew(froms, plan, stand, 30, place)
                self.tells_anew(trail, plan, stand, 30, place)

    def test_nothing_hangs_on_what_was_asked_ahead(self):
        plan, stand = made_plan(7)
        place = run(plan, stand, 30)[0][-1][0]
        words = repr(trail(plan, stand, 30, place))
        for seed in range(30):
            other, other_stand = made_plan(seed)
            for at in list(Sources(other, other_stand, 30).of)[:2]:
                trail(other, other_stand, 30, at)
        self.assertEqual(repr(trail(plan, stand, 30, place)), words)


if __name__ == "__main__":
    unittest.main()
