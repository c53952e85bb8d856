import unittest

from tests.helper import TellsAnew, made_plan, plan_of, rich_plan, within
from twinstride.errors import NoRow, NoText
from twinstride.plans import is_plan
from twinstride.texts import plan_rows, read_plan, read_stand, stand_text

HEAD = ["wheel 10", "names a b c", "pieces 3", "mark a"]
WORDS = ("if", "else", "end", "again", "piece", "pick", "wheel", "names", "pieces", "mark", "put", "sum")


def row_texts(rows):
    """The rows of a plan as texts, found in another way."""
    for word, x, *rest in rows:
        if word in ("if", "again"):
            yield f"{word} {x}"
            yield from row_texts(rest[0])
            if word == "if":
                yield "else"
                yield from row_texts(rest[1])
            yield "end"
        else:
            form = {
                "put": "{}", "take": "piece {}", "pick": "pick {}", "sum": "{} + {}", "by": "{} * {}",
                "less": "{} < {}",
                "same": "{} == {}",
            }[word]
            yield f"{x} = " + form.format(*rest)


def written_otherwise(plan):
    m, names, many, rows, mark = plan
    return [f"wheel {m}", " ".join(("names",) + names), f"pieces {many}", f"mark {mark}", *row_texts(rows)]


class PlansTest(unittest.TestCase):
    def same_again(self, plan):
        self.assertTrue(is_plan(plan))
        texts = plan_rows(plan)
        self.assertEqual(repr(texts), repr(written_otherwise(plan)))
        self.assertEqual(repr(read_plan(texts)), repr(plan))

    def test_each_sort_of_row(self):
        rows = [
            ("put", "a", 0), ("put", "b", 9), ("take", "a", 0), ("take", "c", 2), ("pick", "a", "b"),
            ("sum", "a", "b", "c"),
            ("by", "a", "b", "c"), ("less", "a", "b", "c"), ("same", "a", "b", "c"),
            ("if", "a", (("put", "b", 1),), (("put", "c", 2),)),
            ("again", "b", (("put", "b", 0),)),
        ]
        texts = [
            "a = 0", "b = 9", "a = piece 0", "c = piece 2", "a = pick b", "a = b + c", "a = b * c", "a = b < c",
            "a = b == c",
            "if a", "b = 1", "else", "c = 2", "end", "again b", "b = 0", "end",
        ]
        self.assertEqual(plan_rows(plan_of(rows)), HEAD + texts)
        self.assertEqual(read_plan(HEAD + texts), plan_of(rows))
        for row in rows:
            self.same_again(plan_of([row]))
        self.same_again(plan_of(rows))

    def test_heads(self):
        self.same_again(plan_of([]))
        self.assertEqual(plan_rows(plan_of([])), HEAD)
        self.same_again((2, ("a",), 0, (), "a"))
        self.same_again((997, ("abcdefgh", "a", "b"), 40, (("put", "a", 996), ("take", "a", 39)), "b"))
        self.same_again((11, tuple("abcdefghijkl"), 10, (("put", "l", 10),), "l"))

    def test_names_that_are_words_of_rows(self):
        rows = []
        for word in WORDS:
            rows += [("put", word, 3), ("take", word, 1), ("pick", word, word), ("if", word, (("sum", word, word, word),), ())]
        for part in (rows[:24], rows[24:]):
            self.same_again((10, WORDS, 3, tuple(part), "mark"))
        self.assertEqual(
            read_plan(["wheel 2", "names else end if", "pieces 0", "mark end", "if if", "else", "end = 1", "end", "end = end + else"]),
            (2, ("else", "end", "if"), 0, (("if", "if", (), (("put", "end", 1),)), ("sum", "end", "end", "else")), "end"),
        )
        self.assertEqual(
            read_plan(["wheel 2", "names piece pick again", "pieces 1", "mark pick", "pick = pick pick", "piece = piece 0", "again = pick piece",
                       "again again", "again = 0", "end"])[3],
            (("pick", "pick", "pick"), ("take", "piece", 0), ("pick", "again", "piece"), ("again", "again", (("put", "again", 0),))),
        )

    def test_empty_ifs_and_agains(self):
        for rows in (
            [("if", "a", (), ())], [("again", "a", ())], [("again", "a", (("if", "b", (), ()),))], within(4),
            [("if", "a", (), (("again", "b", ()),))],
        ):
            self.same_again(plan_of(rows))

    def test_the_greatest_ones(self):
        self.same_again(plan_of([("put", "a", 1)] * 60))
        self.same_again(plan_of(within(4, (("put", "a", 1),) * 56)))
        self.same_again(plan_of([("if", "a", (), ())] * 60))
        deep = within(4, (("put", "a", 1),))
        self.same_again(plan_of(deep * 12))

    def test_made_plans(self):
        for seed in range(300):
            self.same_again(made_plan(seed)[0])
            self.same_again(rich_plan(seed)[0])


class NoRowTest(unittest.TestCase):
    def refused(self, texts, row):
        with self.assertRaises(NoRow) as caught:
            read_plan(texts)
        self.assertEqual(repr(caught.exception.row), repr(row), texts)

    def wrong_at(self, texts, number, wrong):
        """Each wrong text in the place of this one, whatever comes behind it."""
        for text in wrong:
            for behind in (texts[number + 1:], [], ["", "x"]):
                self.refused(texts[:number] + [text] + behind, number)

    def test_the_wheel(self):
        wrong = [
            "", "wheel", "wheel ", "wheel 1", "wheel 0", "wheel 998", "wheel 1000", "wheel 02", "wheel 002",
            "wheel -2", "wheel +2", "wheel 2 ",
            "wheel  2", " wheel 2", "wheel 2 2", "Wheel 2", "wheel x", "wheel 2x", "wheel 2.0", "wheels 2", "names a",
            "wheel|2", "2",
            "wheel " + "9" * 60, "wheel " + "9" * 9000, "wheel 0" + "2" * 59, "a = 1", "end",
        ]
        self.wrong_at(HEAD, 0, wrong)
        for wheel in (2, 10, 99, 100, 997):
            self.assertEqual(read_plan([f"wheel {wheel}"] + HEAD[1:])[0], wheel)

    def test_the_names(self):
        wrong = [
            "", "names", "names ", "names  a", "names a ", " names a", "names a  b", "names a b a", "names A",
            "names a1", "names a,b", "names abcdefghi",
            "names " + " ".join("abcdefghijklm"), "names 1", "name a", "names a_b", "wheel 2", "names a a",
            "names b c abcdefghi", "names ~",
        ]
        self.wrong_at(HEAD, 1, wrong)
        self.assertEqual(read_plan(["wheel 2", "names " + " ".join("abcdefghijkl"), "pieces 0", "mark l"])[1], tuple("abcdefghijkl"))
        self.assertEqual(read_plan(["wheel 2", "names abcdefgh names", "pieces 0", "mark names"])[1], ("abcdefgh", "names"))

    def test_the_pieces(self):
        wrong = [
            "", "pieces", "pieces ", "pieces 41", "pieces 100", "pieces 00", "pieces 03", "pieces -1", "pieces x",
            "pieces 3 ", "pieces  3", " pieces 3",
            "pieces 3 3", "piece 3", "pieces 3.", "mark a", "pieces " + "1" * 60,
        ]
        self.wrong_at(HEAD, 2, wrong)
        for many in (0, 1, 9, 10, 40):
            self.assertEqual(read_plan(HEAD[:2] + [f"pieces {many}", "mark a"])[2], many)

    def test_the_mark(self):
        wrong = ["", "mark", "mark ", "mark d", "mark A", "mark a ", "mark  a", " mark a", "mark a b", "mark 1", "mark names", "a = 1", "marks a", "a"]
        self.wrong_at(HEAD, 3, wrong)
        for mark in "abc":
            self.assertEqual(read_plan(HEAD[:3] + [f"mark {mark}"])[4], mark)

    WRONG_ROWS = [
        "", " ", "a", "a =", "a = ", "= 1", "a 1", "a == 1", "a=1", "a = 1 ", " a = 1", "a  = 1", "a =  1", "a = 10",
        "a = 01", "a = 00", "a = -1", "a = +1",
        "a = 1x", "a = x", "a = b", "d = 1", "A = 1", "a = 1 1", "a = " + "1" * 60, "a = 0" + "0" * 59, "a := 1",
        "a = #1", "a = |",
        "a = piece", "a = piece ", "a = piece 3", "a = piece 40", "a = piece 00", "a = piece 01", "a = piece -1",
        "a = piece a", "a = piece 1 1", "d = piece 1",
        "a = pieces 1", "a = piece  1", "a = piece " + "1" * 60, "a = take 1",
        "a = pick", "a = pick ", "a = pick d", "a = pick 1", "a = pick b c", "d = pick a", "a = picks b", "a = pick  b",
        "a = b +", "a = b + ", "a = + c", "a = b c", "a = b - c", "a = b / c", "a = b = c", "a = b > c", "a = b <= c",
        "a = b != c", "a = b+c", "a = b + d",
        "a = d + b", "d = a + b", "a = b + c + a", "a = 1 + 2", "a = b + 1", "a = b  + c", "a = b +  c",
        "a = b === c", "a = b sum c", "a = b ++ c",
        "if", "if ", "if d", "if 1", "if a b", "if  a", "if a ", " if a", "if a == b", "If a", "again", "again ",
        "again d", "again a b", "again 1", "Again a",
        "else a", "else ", " else", "end a", "end ", " end", "elif a", "end if", "while a", "mark a", "wheel 10",
        "names a b c", "pieces 3", "put a 1",
    ]

    def test_each_sort_of_row(self):
        self.wrong_at(HEAD + ["a = 1"], 4, self.WRONG_ROWS + ["else", "end"])
        self.wrong_at(HEAD + ["b = a + c", "a = 1"], 5, self.WRONG_ROWS + ["else", "end"])
        opened = HEAD + ["if a", "again b"]
        self.wrong_at(opened + ["a = 1"], 6, self.WRONG_ROWS + ["else"])
        self.wrong_at(HEAD + ["if a", "a = 1"], 5, self.WRONG_ROWS + ["end"])
        self.wrong_at(HEAD + ["if a", "else", "a = 1"], 6, self.WRONG_ROWS + ["else"])

    def test_right_rows_beside_the_wrong_ones(self):
        for text in ("a = 9", "a = 0", "a = piece 2", "a = piece 0", "a = pick a", "a = b == c", "again c"):
            texts = HEAD + [text] + (["end"] if text.startswith("again") else [])
            self.assertTrue(is_plan(read_plan(texts)))

    def test_without_pieces(self):
        head = HEAD[:2] + ["pieces 0", "mark a"]
        self.wrong_at(head + ["a = 1"], 4, ["a = piece 0", "a = pick a", "a = piece 1", "a = pick b"])
        self.assertEqual(read_plan(HEAD[:2] + ["pieces 1", "mark a", "a = pick a"])[3], (("pick", "a", "a"),))

    def test_a_small_wheel(self):
        head = ["wheel 2"] + HEAD[1:]
        self.wrong_at(head + ["a = 1"], 4, ["a = 2", "a = 9"])
        self.assertEqual(read_plan(head + ["a = 1"])[3], (("put", "a", 1),))
        self.wrong_at(["wheel 997"] + HEAD[1:] + ["a = 1"], 4, ["a = 997", "a = 1000"])

    def test_where_nothing_is_open(self):
        for texts in (["else"], ["end"], ["if a", "else", "end", "end"], ["if a", "else", "end", "else"], ["again a", "end", "end"], ["if a", "end"],
                      ["if a", "else", "else"], ["again a", "else"], ["if a", "again b", "end", "end"],
                      ["again b", "if a", "else", "end", "else"],
                      ["if a", "a = 1", "else", "a = 1", "end", "end"]):
            self.refused(HEAD + texts, len(HEAD + texts) - 1)
            self.refused(HEAD + texts + ["a = 1"], len(HEAD + texts) - 1)

    def test_the_sixty_first_row(self):
        for text in ("a = 1", "if a", "again a"):
            self.refused(HEAD + ["a = 1"] * 60 + [text], 64)
            self.refused(HEAD + ["if a"] + ["a = 1"] * 59 + [text], 64)
            self.refused(HEAD + ["if a", "else", "end"] * 60 + [text], 184)
        self.assertEqual(len(read_plan(HEAD + ["a = 1"] * 60)[3]), 60)
        self.assertEqual(len(read_plan(HEAD + ["if a"] + ["a = 1"] * 59 + ["else", "end"])[3][0][2]), 59)
        self.assertEqual(len(read_plan(HEAD + ["a = 1"] * 59 + ["again b", "end"])[3]), 60)

    def test_a_fifth_within_one_another(self):
        for opened in (["if a"] * 4, ["again a"] * 4, ["if a", "else", "again b", "if c", "again a"]):
            for text in ("if a", "again b"):
                self.refused(HEAD + opened + [text], 4 + len(opened))
                self.refused(HEAD + opened + ["a = 1", text], 5 + len(opened))
        self.assertTrue(is_plan(read_plan(HEAD + ["again a"] * 4 + ["a = 1"] + ["end"] * 4)))
        self.assertTrue(is_plan(read_plan(HEAD + (["again a"] * 4 + ["end"] * 4) * 5)))

    def test_texts_cut_at_every_place(self):
        plan = plan_of([("if", "a", (("put", "a", 1),), (("again", "b", (("put", "b", 0),)),)), ("put", "c", 1), *within(4)])
        for texts in [plan_rows(plan)] + [plan_rows(rich_plan(seed)[0]) for seed in range(60)]:
            depth = 0
            for count, text in enumerate(texts):
                if count < 4 or depth:
                    self.refused(texts[:count], count)
                else:
                    self.assertEqual(plan_rows(read_plan(texts[:count])), texts[:count])
                depth += text.split(" ")[0] in ("if", "again") and "=" not in text
                depth -= text == "end"
            self.assertEqual(depth, 0)

    def test_a_wrong_text_at_every_place(self):
        for seed in range(40):
            texts = plan_rows(rich_plan(seed)[0])
            for number in range(len(texts)):
                for wrong in ("", texts[number] + " ", " " + texts[number], texts[number] + " =", "wheel", "x = y", texts[number].upper()):
                    self.refused(texts[:number] + [wrong] + texts[number + 1:], number)

    def test_the_first_wrong_one_is_told(self):
        self.refused(["wheel 10", "names a b", "pieces", "mark"], 2)
        self.refused(HEAD + ["a = 1", "b = 10", "c = 10"], 5)
        self.refused(HEAD + ["if a", "a = 10"], 5)


class StandsTest(unittest.TestCase):
    PLAN = plan_of([])

    def test_written(self):
        self.assertEqual(stand_text(((1, 2, 3), (4, 5, 6))), "1 2 3 | 4 5 6")
        self.assertEqual(stand_text(((0,), ())), "0 |")
        self.assertEqual(stand_text(((996, 0), (0,))), "996 0 | 0")
        self.assertEqual(stand_text(((1, 2), (10, 100, 0))), "1 2 | 10 100 0")

    def test_read(self):
        self.assertEqual(repr(read_stand(self.PLAN, "1 2 3 | 4 5 6")), "((1, 2, 3), (4, 5, 6))")
        self.assertEqual(repr(read_stand(plan_of([], many=0), "1 2 9 |")), "((1, 2, 9), ())")
        self.assertEqual(repr(read_stand((997, ("a",), 1, (), "a"), "996 | 0")), "((996,), (0,))")
        self.assertEqual(repr(read_stand((2, ("a",), 40, (), "a"), "1 |" + " 1" * 40)), repr(((1,), (1,) * 40)))

    def test_made_stands(self):
        for seed in range(200):
            plan, stand = made_plan(seed)
            wanted = " ".join([*map(str, stand[0]), "|", *map(str, stand[1])])
            self.assertEqual(stand_text(stand), wanted)
            self.assertEqual(repr(read_stand(plan, wanted)), repr(stand))

    def test_no_text(self):
        for text in (
            "", " ", "|", " | ", "1 2 3", "1 2 3 4 5 6", "1 2 3 |", "1 2 | 4 5 6", "1 2 3 4 | 4 5 6", "1 2 3 | 4 5",
            "1 2 3 | 4 5 6 7", "1 2 | 3 4 5 6",
            "1 2 3 || 4 5 6", "1 2 3 | | 4 5 6", "1 2 3 | 4 | 5 6", "| 1 2 3 4 5 6", "1 2 3 4 5 6 |",
            "1 2 3 | 4 5 6 |", "| 1 2 3 | 4 5 6", "1 2 3 | 4 5 |", "1 2 | | 4 5 6",
            " 1 2 3 | 4 5 6", "1 2 3 | 4 5 6 ", "1  2 3 | 4 5 6", "1 2 3  | 4 5 6", "1 2 3 |  4 5 6", "1 2 3| 4 5 6",
            "1 2 3 |4 5 6", "1 2 3|4 5 6",
            "10 2 3 | 4 5 6", "1 2 3 | 4 5 10", "1 2 3 | 4 5 100", "01 2 3 | 4 5 6", "1 2 3 | 4 05 6",
            "00 2 3 | 4 5 6", "-1 2 3 | 4 5 6", "1 +2 3 | 4 5 6",
            "a 2 3 | 4 5 6", "1 2 3 | 4 5 x", "1 2 3 / 4 5 6", "1,2,3 | 4 5 6", "1 2 3 | 4 5 6.0", "1 2 3 | 4 5 #6",
            "1 2 3 | 4 5 " + "6" * 60, "1 2 3 | 4 5 " + "0" * 60,
        ):
            with self.assertRaises(NoText):
                read_stand(self.PLAN, text)

    def test_no_text_without_pieces(self):
        for text in ("", "1 2 3", "1 2 3 | ", "1 2 3 | 0", " 1 2 3 |", "1 2 3 ||", "1 2 |", "1 2 3 4 |", "|", "1 2 3 |  "):
            with self.assertRaises(NoText):
                read_stand(plan_of([], many=0), text)

    def test_every_cut(self):
        text = "1 2 3 | 4 5 6"
        for at in range(len(text)):
            with self.assertRaises(NoText):
                read_stand(self.PLAN, text[:at])
            with self.assertRaises(NoText):
                read_stand(self.PLAN, text[at + 1:])


class NothingKeptTest(unittest.TestCase, TellsAnew):
    def test_what_is_handed_in_is_as_it_was(self):
        for seed in range(60):
            plan, stand = made_plan(seed)
            self.tells_anew(plan_rows, plan)
            self.tells_anew(read_plan, plan_rows(plan))
            self.tells_anew(stand_text, stand)
            self.tells_anew(read_stand, plan, stand_text(stand))


if __name__ == "__main__":
    unittest.main()
