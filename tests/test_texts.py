"""[101], [102]: texts of plans and of ways, read back, and spoilt at each of their places."""

import random
import unittest

from citylines.errors import BadText, InvalidPlan, InvalidText, InvalidWay, UnsoundPlan
from citylines.plans import unsound
from citylines.riders import is_way
from citylines.texts import plan_of, plan_text, way_of, way_text
from helpers import Case, Few, OTHERS, put
from reading import first_bad, read, read_way
from riding import made_way
from some_plans import made, put_part, wide
from told_plans import CASE_B, CASE_D, CHARGED, RICH, TWO_FEEDERS, overview, plan_of as hand_made

UNSOUND = put_part(CASE_B, "promises", (("driven", 1, 29),))
NO_STRINGS = [value for value in OTHERS if not isinstance(value, str)]
# The text of the interface.
ROWS = [
    "zones 1 1 2", "changes 0 1 0", "walks 0 5 9", "walks 5 0 4", "walks 9 4 0", "drives 0 2 4", "drives 2 0 2", "drives 4 2 0",
    "line 0 1 / 10 / - / 5", "line 1 2 / 8 / - / 5", "trip 0 / 00:00", "trip 1 / 00:12", "block 0 / -", "block 1 / -",
    "duty 0 0 0", "duty 1 0 0", "meet 0 0 1 0 3 news", "promise leaves 1 0 2", "bounds 9", "bounds 0", "budget 9",
]
# A text of all rows, with all forms of each.
FULL = [
    "zones 2 4 1 4", "changes 1 0 1 0", "walks 0 4 2 3", "walks 4 0 2 4", "walks 2 2 0 3", "walks 3 4 3 0", "drives 0 1 1 3",
    "drives 1 0 1 2", "drives 1 1 0 3", "drives 3 2 3 0", "line 2 3 1 / 5 4 / 2 / 3", "line 2 3 / 3 / - / 4", "line 1 2 / 3 / - / 3",
    "trip 0 / 00:01 00:13", "trip 2 / 00:08", "trip 0 / 00:15 00:22", "trip 1 / 00:18", "trip 0 / 00:22 00:29", "trip 1 / 00:25",
    "block 0 3 / 1", "block 1 2 / 0 / 19 / 15 11 / 2", "block 4 / - / 8 / 3 / 1", "block 5 / - / 15 / 1 / 3",
    "duty 0 1 1 rest 2 4 0 0", "duty 0 0 0 walk 3 2 0 1", "duty 1 0 0", "duty 3 0 0 walk 3 5 0 0", "duty 4 1 1",
    "meet 0 1 2 1 1 blind", "meet 3 0 5 0 5 news", "meet 5 0 4 1 3 blind", "meet 3 0 2 1 2 news", "promise driven 1 27", "promise meets 2",
    "promise long 2 5", "promise leaves 0 1 2", "promise meets 3", "promise leaves 0 1 0", "promise ends 3 3", "promise driven 3 11",
    "bounds 1 1", "bounds 3", "bounds 2 2", "bounds 1", "bounds 1 3", "bounds 3", "budget 5", "spares 1 0 3", "heard 1 0",
    "remedy 0 wait 3 4", "remedy 1 spare 3 1", "remedy 2 free 1", "remedy 2 drop 5", "remedy 2 cut 4 0",
]


class Texts(Case):
    def assert_read(self, text):
        """The text is read as the patterns have it."""
        bad = first_bad(text)
        if bad is not None:
            with self.assertRaises(BadText) as held:
                plan_of(text)
            self.assertEqual(bad, held.exception.line, text)
            return "bad"
        word = unsound(read(text))
        if word is not None:
            with self.assertRaises(UnsoundPlan) as held:
                plan_of(text)
            self.assertEqual(word, held.exception.word)
            return word
        self.assert_told(read(text), plan_of, text)
        return None

    def test_read_back(self):
        plans = [RICH, CASE_B, CASE_D, CHARGED, TWO_FEEDERS, overview(), wide((1, 2, 3), 4)] + [made(number) for number in range(150)]
        for plan in plans:
            text = plan_text(plan)
            self.assert_told(text, plan_text, plan)
            self.assert_told(plan, plan_of, text)
            self.assertIsNone(first_bad(text))
            self.assertEqual(plan, read(text))

    def test_the_texts_by_hand(self):
        self.assertEqual("\n".join(FULL), plan_text(RICH))
        self.assert_told(RICH, plan_of, "\n".join(FULL))
        self.assertEqual("\n".join(ROWS), plan_text(plan_of("\n".join(ROWS))))

    def test_the_example(self):
        for rows, line in (
            (["zones 1 1", "changes 0 0", "walks 0 5", "line 0 1 / 5 / - / 2"], 4),
            (ROWS[:10] + ["trip 0 / 9:05"], 11), (ROWS + ["heard"], 22), (ROWS[:3], 4), (ROWS[:-1], 21), ([""], 1), (["", ""], 1),
        ):
            self.assertEqual(line, first_bad("\n".join(rows)))
            self.assertEqual("bad", self.assert_read("\n".join(rows)))
        # A row, though no line.
        self.assertEqual("lines", self.assert_read("\n".join(ROWS[:8] + ["line 0 / 5 / - / 2"] + ROWS[9:])))

    def test_with_none_of_those_that_may_be_empty(self):
        plan = hand_made([((0, 1), (5,), ())], [(0, (0,))], stops=2)
        rows = plan_text(plan).split("\n")
        self.assertEqual(
            ["zones 1 1", "changes 0 0", "walks 0 5", "walks 5 0", "drives 0 1", "drives 1 0", "line 0 1 / 5 / - / 1", "trip 0 / 00:00",
             "block 0 / -", "duty 0 0 0", "bounds 0", "budget 0"], rows,
        )
        self.assert_told(plan, plan_of, "\n".join(rows))
        # Without trips no bounds are told; that is read, and unsound.
        for some, word in ((rows[:6], "lines"), (rows[:7], "trips"), (rows[:8] + ["bounds 0"], "blocks"), (rows[:9] + ["bounds 0"], "duties")):
            self.assertEqual(word, self.assert_read("\n".join(some + ["budget 0"])))

    def test_each_row_spoilt_at_each_of_its_words(self):
        for at, row in enumerate(FULL):
            words = row.split(" ")
            for place, word in enumerate(words):
                news = ["", "x", "0", "00", "01", "7", "1" * 30, "1" * 31, "-", "/", "-1", "+1", "1.0", "00:00", "33:19", "33:20", "9:05", "24:60"]
                news += ["walk", "rest", "blind", "news", word + " ", " " + word, word + "0", "0" + word, word.upper(), word[:-1], word + " /", "free", "cut"]
                news += [word + " " + word, "zones", "remedy", "0x1"]
                for new in news:
                    spoilt = words[:place] + [new] + words[place + 1:]
                    self.assert_read("\n".join(FULL[:at] + [" ".join(spoilt)] + FULL[at + 1:]))
                self.assert_read("\n".join(FULL[:at] + [" ".join(words[:place] + words[place + 1:])] + FULL[at + 1:]))
                self.assert_read("\n".join(FULL[:at] + [" ".join(words[:place])] + FULL[at + 1:]))

    def test_rows_left_out_twice_exchanged(self):
        for rows in (FULL, ROWS):
            for at in range(len(rows)):
                self.assert_read("\n".join(rows[:at] + rows[at + 1:]))
                self.assert_read("\n".join(rows[:at + 1] + rows[at:]))
                self.assert_read("\n".join(rows[:at] + [""] + rows[at:]))
                self.assert_read("\n".join(rows[:at]))
                if at + 1 < len(rows):
                    self.assert_read("\n".join(rows[:at] + [rows[at + 1], rows[at]] + rows[at + 2:]))
                for other in ("zones 1", "line 0 1 / 5 / - / 1", "trip 0 / 00:00", "budget 3", "heard 0", "spares 1 1 1", "remedy 0 drop 0", "what"):
                    self.assert_read("\n".join(rows[:at] + [other] + rows[at:]))
                    self.assert_read("\n".join(rows[:at] + [other] + rows[at + 1:]))

    def test_line_feeds_and_blanks_at_the_ends(self):
        text = "\n".join(ROWS)
        for spoilt, line in ((text + "\n", 22), ("\n" + text, 1), (text + " ", 21), (" " + text, 1), (text + "\n\n", 22), (text + "\n ", 22)):
            with self.assertRaises(BadText) as held:
                plan_of(spoilt)
            self.assertEqual(line, held.exception.line)
            self.assertEqual(line, first_bad(spoilt))
        self.assert_read("\n".join(FULL) + "\n")

    def test_numerals(self):
        at = ROWS.index("budget 9")
        for numeral, told in (("0", None), ("9", None), ("20", None), ("21", "delays"), ("9" * 30, "delays"), ("1" + "0" * 29, "delays")):
            self.assertEqual(told, self.assert_read("\n".join(put(ROWS, (at,), "budget " + numeral))))
        for numeral in ("00", "09", "9" * 31, "-0", "+9", " 9", "9 ", "9_0", "", "a", "1e1"):
            self.assertEqual("bad", self.assert_read("\n".join(put(ROWS, (at,), "budget " + numeral))))

    def test_each_word_of_unsound_plans(self):
        words = set()
        for row, other in (
            ("zones 1 1 2", "zones 1 1 5"), ("line 0 1 / 10 / - / 5", "line 0 1 / 1 / - / 5"), ("trip 0 / 00:00", "trip 2 / 00:00"),
            ("block 1 / -", "block 0 / -"), ("duty 1 0 0", "duty 0 0 0"), ("meet 0 0 1 0 3 news", "meet 0 0 1 0 61 news"),
            ("promise leaves 1 0 2", "promise leaves 1 1 2"), ("budget 9", "budget 21"), ("budget 9", "budget 9\nspares 4 0 0"),
            ("budget 9", "budget 9\nheard 10"), ("budget 9", "budget 9\nremedy 1 free 0"), ("promise leaves 1 0 2", "promise driven 1 7"),
            ("block 0 / -\nblock 1 / -", "block 0 1 / 4"), ("changes 0 1 0", "changes 0 1"), ("bounds 9", "bounds 9 9"),
        ):
            text = "\n".join(ROWS)
            self.assertIn(row, text)
            words.add(self.assert_read(text.replace(row, other)))
        expected = {"city", "lines", "trips", "blocks", "duties", "meets", "promises", "delays", "spares", "heard", "remedies", "told", "kept"}
        self.assertEqual(expected, words)

    def test_random_rows(self):
        rng = random.Random(7)
        for _ in range(1500):
            rows = list(rng.choice([FULL, ROWS]))
            for _ in range(rng.randint(1, 3)):
                at = rng.randrange(len(rows))
                rows[at:at + rng.randint(0, 1)] = [rng.choice(FULL)] * rng.randint(0, 1)
            self.assert_read("\n".join(rows))

    def test_errors_and_names(self):
        for value in OTHERS + [UNSOUND]:
            self.assert_error(InvalidPlan, [value], plan_text, value)
        for value in NO_STRINGS:
            self.assert_error(InvalidText, [value], plan_of, value)
        self.assert_by_name(plan_text, plan=RICH)
        self.assert_by_name(plan_of, text="\n".join(FULL))
        own = put_part(put_part(overview(), "promises", (("leaves", Few.ONE, Few.NONE, Few.TWO),)), "spares", (Few.TWO, Few.ONE, Few.NONE))
        self.assertIn("promise leaves 1 0 2\n", plan_text(own))
        self.assertTrue(plan_text(own).endswith("\nspares 2 1 0"))


class Ways(Case):
    def assert_way(self, plan, text):
        told = read_way(text)
        if told is None:
            with self.assertRaises(BadText) as held:
                way_of(plan, text)
            self.assertEqual(1, held.exception.line)
            return False
        if not is_way(plan, told):
            self.assert_error(InvalidWay, [told], way_of, plan, text)
            return False
        self.assert_told(told, way_of, plan, text)
        return True

    def test_read_back(self):
        for number in range(200):
            plan = made(number)
            way = made_way(number, plan)
            text = way_text(plan, way)
            self.assert_told(text, way_text, plan, way)
            self.assert_told(way, way_of, plan, text)
            self.assertEqual(way, read_way(text))

    def test_the_example(self):
        lines = [((0, 2), (5,), ()), ((2, 3), (5,), ())]
        plan = hand_made(lines, [(0, (480,)), (1, (500,))])
        text = "0 08:00 ride 0 2 by 08:30 walk 3 there ride 1 3 there"
        told = (0, 480, ("ride", 0, 2, ("by", 510, ("walk", 3, ("there",)), ("ride", 1, 3, ("there",)))))
        self.assert_told(told, way_of, plan, text)
        self.assert_told(text, way_text, plan, told)
        for other in (text + " there", text + " ", " " + text, text[:-6], text.replace("there", "There"), text + "\n", text.replace(" ", "  ", 1)):
            self.assertFalse(self.assert_way(plan, other))

    def test_spoilt_at_each_word(self):
        for number in range(40):
            plan = made(number)
            words = way_text(plan, made_way(number, plan)).split(" ")
            for place, word in enumerate(words):
                for new in ("", "0", "1", "7", "01", "00:00", "33:19", "33:20", "9:05", "there", "walk", "ride", "by", "x", "-", "1" * 30, "1" * 31, word + " there"):
                    self.assert_way(plan, " ".join(words[:place] + [new] + words[place + 1:]))
                self.assert_way(plan, " ".join(words[:place] + words[place + 1:]))
                self.assert_way(plan, " ".join(words[:place]))
                self.assert_way(plan, " ".join(words[:place + 1] + words[place:]))

    def test_deep_ones(self):
        plan = overview()
        for many in range(1, 44):
            walks = " ".join(f"walk {(at + 1) % 2}" for at in range(many - 1))
            text = f"0 00:00 {walks} there" if many > 1 else "0 00:00 there"
            self.assertIs(self.assert_way(plan, text), many <= 12)
            self.assertIs(read_way(text) is None, many > 40)
            # A second, shallow route makes it no deeper.
            both = f"0 00:00 by 10:00 there {walks} there" if many > 1 else "0 00:00 by 10:00 there there"
            self.assertIs(self.assert_way(plan, both), many <= 11)
            self.assertIs(read_way(both) is None, many > 39)
            both = f"0 00:00 by 10:00 {walks} there there" if many > 1 else "0 00:00 by 10:00 there there"
            self.assertIs(self.assert_way(plan, both), many <= 11)

    def test_many_parts(self):
        plan = overview()
        for many in (14, 15, 16, 200):
            # Rows of "by" are as deep as they are many; both routes of each of three, five parts.
            text = "0 00:00 " + "by 00:05 " * many + "there " * many + "there"
            self.assert_way(plan, text)
        self.assert_way(plan, "0 00:00 " + "by 00:05 walk 1 there by 00:06 there there " * 2 + "there")

    def test_first_words(self):
        plan = overview()
        for text, told in (
            ("0 00:00 there", True), ("3 33:19 there", True), ("4 00:00 there", False), ("00 00:00 there", False), ("0 33:20 there", False),
            ("0 0:00 there", False), ("0 00:00", False), ("0", False), ("", False), ("there", False), ("0 00:00 here", False), ("0 00:00 walk 0 there", False),
            ("0 00:00 walk 1 there", True), ("0 00:00 ride 0 1 there", True), ("0 00:00 ride 1 1 there", False), ("0 00:00 by 00:00 there there", True),
            ("0 00:00 by 00:00 there", False), ("0 00:00 by 60 there there", False), ("0 00:00 ride 0 there", False),
        ):
            self.assertIs(self.assert_way(plan, text), told, text)

    def test_errors_and_names(self):
        plan = overview()
        for value in OTHERS + [UNSOUND]:
            self.assert_error(InvalidPlan, [value], way_text, value, None)
            self.assert_error(InvalidPlan, [value], way_of, value, None)
        for value in OTHERS + [(0, 0), (4, 0, ("there",)), [0, 0, ("there",)]]:
            self.assert_error(InvalidWay, [value], way_text, plan, value)
        for value in NO_STRINGS:
            self.assert_error(InvalidText, [value], way_of, plan, value)
        self.assert_by_name(way_text, plan=plan, way=(0, 0, ("there",)))
        self.assert_by_name(way_of, plan=plan, text="0 00:00 there")
        self.assert_same("0 00:01 walk 1 there", way_text(plan, (Few.NONE, Few.ONE, ("walk", Few.ONE, ("there",)))))


if __name__ == "__main__":
    unittest.main()
