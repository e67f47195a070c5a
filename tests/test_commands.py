"""[105], [107], [108]: names, labels, commands and deeds by their words."""

import itertools
import unittest

from citylines.commands import is_command, is_deed, is_name
from helpers import Case, OTHERS
from ordering import is_deed_line, is_line

DEEDS = [
    "plan p zones", "way w p 0 00:00 there", "tickets t", "passages s", "ticket t 300 60 1,2 1", "passage s 0 20 1", "strike t 0",
    "budget p 3", "bound p 0 1 2", "spares p -", "spares p 1 2 3", "told p 0 00:00", "told p 1 33:19,00:05,10:10", "meet p 0 0 1 0 3 news",
    "meet p 0 0 1 0 3 blind", "wait p 0 3 blind", "wait p 0 3 news", "part p 0", "promise p meets 0", "promise p leaves 1 0 2",
    "promise p ends 1 2", "promise p driven 0 99", "promise p long 0 99", "release p 0", "hear p 3", "hear p 0,3,1", "remedy p wait 0 3",
    "remedy p free 0", "remedy p spare 1 3", "remedy p drop 1", "remedy p cut 1 0", "copy q p", "drop p", "claim k keeps p",
    "claim k breaks p", "claim k safe p 1 least 4", "claim k safe p 1 now", "claim k misleads p 1 least 4", "claim k misleads p 1 now",
    "claim k surely p w 900", "claim k perhaps p w 900", "claim k alike p q", "claim k unlike p q", "claim k same p q", "claim k parted p q",
    "claim k within t s 300", "claim k above t s 300", "forget k",
]
QUESTIONS = [
    "undo", "redo", "state k", "states", "claimed k", "names", "sort p", "show p", "equal p q", "heard p", "next p", "moment p",
    "sign p 1 least", "sign p 1 now", "can p", "least p", "late p 1", "price t s",
]


class Names(Case):
    def test_bounds(self):
        for name, told in (
            ("a", True), ("z", True), ("a" * 12, True), ("a" * 13, False), ("", False), ("a1", True), ("a09z", True), ("1a", False), ("9", False),
            ("A", False), ("aB", False), ("a_b", False), ("a b", False), ("a ", False), (" a", False), ("a\n", False), ("a-", False), ("~", False),
            ("a" + "9" * 11, True), ("a" + "9" * 12, False),
        ):
            self.assertIs(is_name(name), told, name)

    def test_each_sign(self):
        for sign in map(chr, range(32, 127)):
            self.assertIs(is_name(sign), sign.islower())
            self.assertIs(is_name("a" + sign), sign.islower() or sign.isdigit())

    def test_values_of_all_kinds(self):
        for value in OTHERS:
            self.assertIs(is_name(value), isinstance(value, str) and value != "")
            self.assert_no(is_command, value)
            self.assert_no(is_deed, value)
        self.assert_by_name(is_name, value="a1")
        self.assert_by_name(is_command, value="names")
        self.assert_by_name(is_deed, value="names")


class Words(Case):
    def assert_line(self, line):
        self.assertIs(is_command(line), is_line(line), line)
        self.assertIs(is_deed(line), is_deed_line(line), line)

    def test_right_ones(self):
        for line in DEEDS:
            self.assert_yes(is_command, line)
            self.assert_yes(is_deed, line)
            self.assertTrue(is_deed_line(line))
        for line in QUESTIONS:
            self.assert_yes(is_command, line)
            self.assert_no(is_deed, line)
            self.assertTrue(is_line(line))

    def test_spoilt_at_each_word(self):
        for line in DEEDS + QUESTIONS:
            words = line.split(" ")
            for place, word in enumerate(words):
                news = ["", "0", "1", "00", "01", "999999", "1000000", "-", "-1", "a", "A", "a" * 12, "a" * 13, "1a", "p", "1,2", "1,,2", ",1", "1,", "1,02"]
                news += ["00:00", "00:00,00:05", "33:19", "33:20", "0:00", "24:60", "news", "blind", "least", "now", "keeps", "meets", "free", "drop", "wait"]
                news += [word + " ", " " + word, word + word, word.upper(), word + "\n", word + ",0", word[:-1], word + " " + word]
                for new in news:
                    self.assert_line(" ".join(words[:place] + [new] + words[place + 1:]))
                self.assert_line(" ".join(words[:place] + words[place + 1:]))
                self.assert_line(" ".join(words[:place]))
                self.assert_line(" ".join(words[:place + 1] + words[place:]))
            for other in (line + " ", " " + line, line + "\n", line + " 0", line + " p", line + ",0"):
                self.assert_line(other)

    def test_words_exchanged(self):
        firsts = sorted({line.split(" ")[0] for line in DEEDS + QUESTIONS})
        for line in DEEDS + QUESTIONS:
            rest = line.partition(" ")[2]
            for first in firsts:
                self.assert_line(first + " " + rest if rest else first)

    def test_numbers_of_counts(self):
        for word, many in itertools.product(("bound p", "meet p", "spares p", "told p", "promise p long", "remedy p cut", "ticket t", "passage s", "part p"), range(8)):
            for end in ("", " news", " 1", " 1,2 1", " 00:00"):
                self.assert_line(word + " 1" * many + end)

    def test_texts(self):
        for text in ("x", " ", "  ", "\n", "x\ny", " x", "x ", "zones 1 1\nchanges 0 0", "~"):
            self.assert_yes(is_deed, "plan p " + text)
            self.assert_yes(is_deed, "way w p " + text)
        for line in ("plan p ", "plan p", "plan", "plan ", "way w p ", "way w p", "way w", "plan  p x", "plan P x", "way w 1p x", "plan p\nx"):
            self.assert_no(is_command, line)
            self.assert_no(is_deed, line)

    def test_no_commands(self):
        for line in ("", " ", "what", "Undo", "undo ", "undo 1", "states k", "state", "names p", "claim k", "claim k keeps", "claim keeps p", "promise p", "remedy p"):
            self.assert_no(is_command, line)
        for line in ("claim k safe p 1 least", "claim k safe p 1 now 0", "claim k keeps p q", "claim k alike p", "claim k within t 300", "claim k surely p 900"):
            self.assert_no(is_command, line)


if __name__ == "__main__":
    unittest.main()
