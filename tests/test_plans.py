import copy
import unittest

from tests.helper import made_plan, plan_of, within
from twinstride.plans import is_plan, may_take, sets

EVERY_SORT = (
    ("put", "a", 9),
    ("take", "b", 2),
    ("pick", "c", "a"),
    ("sum", "a", "b", "c"),
    ("by", "a", "a", "a"),
    ("less", "b", "c", "a"),
    ("same", "c", "a", "b"),
    ("if", "a", (("put", "b", 1), ("if", "b", (), (("take", "a", 0),))), (("again", "c", ()),)),
    ("again", "b", (("put", "b", 0), ("if", "c", (("again", "a", (("put", "a", 0),)),), ()))),
    ("if", "c", (), ()),
    ("again", "c", ()),
)

# None of these is a right part of any plan in these tests, whatever its place.
NEVER_RIGHT = (
    None, True, False, -1, 10 ** 59, -(10 ** 59), [], [1], ["a"], [("put", "a", 0)], "", "A", "no", "a ",
    (None,), ("a", "b", "c", 1), ("put",), ("again",), (("put", "a", 0), None), ((),), ([],), (True,), ((((),),),),
)


def paths(thing, at=()):
    """The way to each part of nested tuples, and to the whole."""
    yield at
    if isinstance(thing, tuple):
        for number, part in enumerate(thing):
            yield from paths(part, at + (number,))


def part_at(thing, path):
    for number in path:
        thing = thing[number]
    return thing


def with_part(thing, path, part):
    if not path:
        return part
    head, rest = path[0], path[1:]
    return thing[:head] + (with_part(thing[head], rest, part),) + thing[head + 1:]


class IsPlanTest(unittest.TestCase):
    def right(self, thing):
        self.assertIs(is_plan(thing), True, thing)

    def wrong(self, thing):
        self.assertIs(is_plan(thing), False, thing)

    def test_every_sort_of_row(self):
        self.right(plan_of(EVERY_SORT))
        for row in EVERY_SORT:
            self.right(plan_of([row]))

    def test_no_rows_and_no_pieces(self):
        self.right(plan_of([]))
        self.right(plan_of([], many=0))
        self.right(plan_of([("if", "a", (), ()), ("again", "b", ())], many=0))

    def test_made_plans(self):
        for seed in range(200):
            self.right(made_plan(seed)[0])

    def test_the_wheel(self):
        for m in (2, 3, 996, 997):
            self.right(plan_of([("put", "a", 1)], m=m))
        for m in (-3, 0, 1, 998, 10 ** 59, True, None, "2", (2,), [2]):
            self.wrong(plan_of([], m=m))

    def test_how_many_names(self):
        twelve = tuple("abcdefghijkl")
        self.right(plan_of([], names=("a",)))
        self.right(plan_of([], names=twelve))
        self.right(plan_of([("sum", "l", "a", "k")], names=twelve, mark="l"))
        self.wrong(plan_of([], names=()))
        self.wrong(plan_of([], names=twelve + ("m",)))

    def test_the_letters_of_names(self):
        for name in ("a", "z", "az", "abcdefgh", "zzzzzzzz", "if", "put"):
            self.right(plan_of([("put", name, 0)], names=("q", name), mark=name))
        for name in ("", "abcdefghi", "A", "aB", "Z", "a b", " a", "a ", "a1", "a_", "`", "{", "-", "~", "a\n", "\u00e9"):
            self.wrong(plan_of([], names=("q", name), mark="q"))
            self.wrong(plan_of([], names=("q", name), mark=name))

    def test_names_are_unlike(self):
        self.wrong(plan_of([], names=("a", "a")))
        self.wrong(plan_of([], names=("a", "b", "c", "b")))
        self.right(plan_of([], names=("b", "a", "ab", "ba")))

    def test_names_are_a_tuple_of_texts(self):
        for names in (["a", "b"], "a", "ab", None, 1, ("a", 1), ("a", None), ("a", ("b",)), ("a", ["b"]), (("a",),)):
            self.wrong(plan_of([], names=names))

    def test_how_many_pieces(self):
        for many in (0, 1, 39, 40):
            self.right(plan_of([], many=many))
        for many in (-1, 41, 10 ** 59, True, False, None, "3", (), []):
            self.wrong(plan_of([], many=many))

    def test_the_mark_is_one_of_the_names(self):
        for mark in ("a", "b", "c"):
            self.right(plan_of([], mark=mark))
        for mark in ("d", "ab", "", "A", None, 0, True, ("a",), ["a"], ("a", "b", "c")):
            self.wrong(plan_of([], mark=mark))

    def test_the_number_of_a_put(self):
        for m in (2, 10, 997):
            for k in (0, 1, m - 1):
                self.right(plan_of([("put", "a", k)], m=m))
            for k in (-1, m, m + 1, True, False, None, "0", "a", (0,), [0]):
                self.wrong(plan_of([("put", "a", k)], m=m))

    def test_the_piece_of_a_take(self):
        for many in (1, 3, 40):
            for i in (0, many - 1):
                self.right(plan_of([("take", "a", i)], many=many))
            for i in (-1, many, True, False, None, "0", "a", (0,), [0]):
                self.wrong(plan_of([("take", "a", i)], many=many))
        self.wrong(plan_of([("take", "a", 0)], many=0))
        self.wrong(plan_of([("take", "a", -1)], many=0))

    def test_a_piece_may_lie_beyond_the_wheel(self):
        self.right(plan_of([("take", "a", 39)], m=2, many=40))

    def test_a_pick_needs_pieces(self):
        self.right(plan_of([("pick", "a", "b")], many=1))
        self.wrong(plan_of([("pick", "a", "b")], many=0))
        self.wrong(plan_of([("again", "a", (("if", "b", (), (("pick", "a", "b"),)),))], many=0))
        self.wrong(plan_of([("pick", "a", 0)]))

    def test_sixty_rows(self):
        row = ("put", "a", 0)
        self.right(plan_of([row] * 60))
        self.wrong(plan_of([row] * 61))

    def test_rows_within_are_counted(self):
        row = ("put", "a", 0)
        self.right(plan_of([row] * 19 + [("if", "a", (row,) * 20, (row,) * 20)]))
        self.wrong(plan_of([row] * 20 + [("if", "a", (row,) * 20, (row,) * 20)]))
        self.wrong(plan_of([row] * 19 + [("if", "a", (row,) * 21, (row,) * 20)]))
        self.wrong(plan_of([row] * 19 + [("if", "a", (row,) * 20, (row,) * 21)]))
        self.right(plan_of([("again", "a", (("again", "b", (row,) * 58),))]))
        self.wrong(plan_of([("again", "a", (("again", "b", (row,) * 59),))]))
        self.right(plan_of([("again", "a", ())] * 60))
        self.wrong(plan_of([("if", "a", (), ())] * 61))

    def test_far_too_many_rows_are_told_soon(self):
        rows = (("put", "a", 0),) * 1000
        for _ in range(4):
            rows = (("if", "a", rows, rows),) * 1000
        self.wrong(plan_of(rows))

    def test_four_within_one_another(self):
        for depth in range(5):
            self.right(plan_of(within(depth)))
            self.right(plan_of(within(depth, [("put", "a", 0)])))
        for depth in (5, 6, 40, 5000):
            self.assertIs(is_plan(plan_of(within(depth))), False)

    def test_four_within_one_another_of_one_sort(self):
        for depth, told in ((4, True), (5, False)):
            agains = firsts = seconds = ()
            for _ in range(depth):
                agains = (("again", "a", agains),)
                firsts = (("if", "a", firsts, ()),)
                seconds = (("if", "a", (), seconds),)
            for rows in (agains, firsts, seconds):
                self.assertIs(is_plan(plan_of(rows)), told)

    def test_many_beside_one_another_are_not_within(self):
        self.right(plan_of(within(4) * 5 + within(4, [("put", "a", 0), ("put", "b", 0)])))

    def test_each_x_y_z_is_a_name(self):
        for row in EVERY_SORT:
            for number, part in enumerate(row):
                if number and isinstance(part, str):
                    for other in ("d", "", "A", "put", "ab", 0, None, True, ("a",), ["a"], (), row):
                        self.wrong(plan_of([row[:number] + (other,) + row[number + 1:]]))

    def test_unknown_words(self):
        for row in EVERY_SORT:
            for word in ("", "a", "Put", "put ", "unless", "if ", "x", None, 0, 1, True, (), [], ("put",), ["put"], row):
                self.wrong(plan_of([(word,) + row[1:]]))

    def test_a_word_with_another_sorts_parts(self):
        self.wrong(plan_of([("put", "a", "b", "c")]))
        self.wrong(plan_of([("sum", "a", 0)]))
        self.wrong(plan_of([("sum", "a", "b")]))
        self.wrong(plan_of([("again", "a", (), ())]))
        self.wrong(plan_of([("if", "a", ())]))
        self.wrong(plan_of([("put", "a", ())]))
        self.wrong(plan_of([("again", "a", "b")]))
        self.wrong(plan_of([("if", "a", "b", "c")]))
        self.wrong(plan_of([("if", "a", 0, ())]))
        self.wrong(plan_of([("again", "a", ("put", "a", 0))]))
        self.wrong(plan_of([("pick", "a", ())]))

    def test_a_part_more_or_fewer(self):
        for row in EVERY_SORT:
            for number in range(len(row)):
                self.wrong(plan_of([row[:number]]))
                self.wrong(plan_of([("again", "a", (row[:number],))]))
            for more in ("a", 0, None, ()):
                self.wrong(plan_of([row + (more,)]))
                self.wrong(plan_of([("if", "a", (), (row + (more,),))]))

    def test_a_plan_has_five_parts(self):
        whole = plan_of(EVERY_SORT)
        for number in range(5):
            self.wrong(whole[:number])
            self.wrong(whole[:number] + whole[number + 1:])
        self.wrong(whole + ("a",))
        self.wrong(whole + ((),))

    def test_other_things(self):
        for thing in NEVER_RIGHT + (0, 1, 5, "plan", "abcde", (1, 2, 3, 4, 5), (whole_plan := plan_of([]),), [whole_plan]):
            self.wrong(thing)
        self.wrong(list(whole_plan))
        self.wrong({})

    def test_wrong_things_at_every_part(self):
        whole = plan_of(EVERY_SORT)
        for path in paths(whole):
            for thing in NEVER_RIGHT:
                if part_at(whole, path) != thing or isinstance(thing, bool):
                    self.wrong(with_part(whole, path, thing))

    def test_a_list_in_the_stead_of_each_tuple(self):
        whole = plan_of(EVERY_SORT)
        for path in paths(whole):
            part = part_at(whole, path)
            if isinstance(part, tuple):
                self.wrong(with_part(whole, path, list(part)))

    def test_a_truth_in_the_stead_of_each_number(self):
        whole = plan_of([("put", "a", 0), ("put", "a", 1), ("take", "b", 0), ("again", "a", (("put", "b", 1),))], many=1)
        self.right(whole)
        for path in paths(whole):
            part = part_at(whole, path)
            if isinstance(part, int) and part < 2:
                self.wrong(with_part(whole, path, bool(part)))

    def test_things_twelve_deep(self):
        for deepest in (None, 1, "a", ()):
            thing = deepest
            for number in range(12):
                thing = [thing] if number % 2 else (thing,)
            self.wrong(thing)
            whole = plan_of(EVERY_SORT)
            for path in paths(whole):
                self.wrong(with_part(whole, path, thing))

    def test_the_thing_is_as_it_was(self):
        thing = [10, ["a"], 0, [], "a"]
        inner = (10, ("a",), 0, (["put", "a", 0],), "a")
        kept = copy.deepcopy((thing, inner))
        self.wrong(thing)
        self.wrong(inner)
        self.assertEqual((thing, inner), kept)


class SetsTest(unittest.TestCase):
    def told(self, rows, names):
        self.assertEqual(repr(sets(rows)), repr(names))

    def test_no_rows(self):
        self.told((), [])
        self.told((("if", "a", (), ()), ("again", "b", ())), [])

    def test_each_row_sets_its_x(self):
        for row in EVERY_SORT[:7]:
            self.told((row,), [row[1]])

    def test_names_only_looked_at_are_not_set(self):
        self.told((("sum", "x", "b", "c"), ("pick", "y", "d"), ("if", "e", (), ()), ("again", "f", ())), ["x", "y"])

    def test_both_sides_of_an_if(self):
        self.told((("if", "a", (("put", "b", 0),), (("put", "c", 0),)),), ["b", "c"])
        self.told((("if", "a", (), (("put", "c", 0),)),), ["c"])
        self.told((("if", "a", (("put", "b", 0),), ()),), ["b"])

    def test_an_again(self):
        self.told((("again", "a", (("put", "b", 0), ("take", "z", 1))),), ["b", "z"])

    def test_within_one_another(self):
        self.told(within(4, [("put", "q", 0)]), ["q"])
        self.told(EVERY_SORT, ["a", "b", "c"])
        rows = (
            ("again", "a", (("if", "b", (("again", "c", (("less", "h", "a", "b"),)),), (("put", "g", 1),)),)),
            ("put", "f", 0),
        )
        self.told(rows, ["f", "g", "h"])

    def test_rising_and_each_once(self):
        rows = (("put", "zz", 0), ("put", "b", 0), ("put", "zz", 1), ("put", "z", 0), ("put", "ab", 0), ("put", "b", 2))
        self.told(rows, ["ab", "b", "z", "zz"])
        self.told((("put", "b", 0), ("if", "b", (("put", "b", 1),), (("put", "a", 1),)), ("put", "a", 0)), ["a", "b"])

    def test_a_new_list_each_time(self):
        first = sets(EVERY_SORT)
        first.append("more")
        first[0] = "other"
        self.told(EVERY_SORT, ["a", "b", "c"])
        nothing = sets(())
        nothing.append("more")
        self.told((), [])


class MayTakeTest(unittest.TestCase):
    def told(self, rows, pieces, many=5):
        self.assertEqual(repr(may_take(plan_of(rows, many=many), tuple(rows))), repr(pieces))

    def test_no_rows(self):
        self.told((), [])
        self.told((), [], many=0)
        self.told((("put", "a", 3), ("sum", "a", "b", "c"), ("again", "a", (("put", "a", 2),))), [])

    def test_takes_rising_and_each_once(self):
        self.told((("take", "a", 4), ("take", "b", 0), ("take", "a", 4), ("take", "c", 2)), [0, 2, 4])
        self.told((("take", "a", 30), ("take", "a", 4), ("take", "a", 21)), [4, 21, 30], many=40)

    def test_within_ifs_and_agains(self):
        self.told((("if", "a", (("take", "a", 3),), (("take", "b", 1),)),), [1, 3])
        self.told((("again", "a", (("take", "a", 2),)),), [2])
        self.told(within(4, [("take", "a", 4)]) + (("take", "a", 3),), [3, 4])

    def test_all_where_there_is_a_pick(self):
        self.told((("pick", "a", "b"),), [0, 1, 2, 3, 4])
        self.told((("take", "a", 1), ("pick", "a", "b")), [0, 1, 2, 3, 4])
        self.told(within(4, [("pick", "a", "b")]), [0, 1, 2, 3, 4])
        self.told((("if", "a", (("take", "a", 1),), (("pick", "a", "b"),)),), [0, 1, 2, 3, 4])
        self.told((("pick", "a", "b"),), [0], many=1)

    def test_only_of_the_rows_handed_in(self):
        whole = plan_of([("take", "a", 0), ("pick", "b", "a"), ("take", "a", 2)])
        self.assertEqual(may_take(whole, whole[3]), [0, 1, 2])
        self.assertEqual(may_take(whole, whole[3][2:]), [2])
        self.assertEqual(may_take(whole, whole[3][:1]), [0])
        self.assertEqual(may_take(whole, whole[3][3:]), [])

    def test_a_new_list_each_time(self):
        for rows, pieces in (((("pick", "a", "b"),), [0, 1, 2]), ((("take", "a", 1),), [1]), ((), [])):
            whole = plan_of(rows)
            first = may_take(whole, rows)
            first.append(7)
            first[0] = 8
            self.assertEqual(repr(may_take(whole, rows)), repr(pieces))


if __name__ == "__main__":
    unittest.main()
