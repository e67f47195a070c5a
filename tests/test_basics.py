"""[2] INTEGERS and COUNTS, [5] MINUTES, [11] clocks."""

import unittest

from citylines.basics import clock_of, clock_text, is_count, is_integer, is_minute
from citylines.errors import InvalidMinute, InvalidText
from helpers import Case, Few, NO_INTEGERS, OTHERS

CLOCKS = {
    0: "00:00", 9: "00:09", 59: "00:59", 60: "01:00", 61: "01:01", 599: "09:59", 600: "10:00", 1439: "23:59",
    1440: "24:00", 1445: "24:05", 1980: "33:00", 1998: "33:18", 1999: "33:19",
}

NO_CLOCKS = [
    "", "33:20", "33:59", "34:00", "99:59", "9:05", "09:5", "09:60", "09:99", "+9:05", "-0:05", "09:+5", "09:-5",
    " 9:05", "09: 5", " 09:05", "09:05 ", "\n09:05", "09:05\n", "09:05\n\n", "09:050", "009:05", "0905", "09-05", "09.05",
    "09:05:00", "09 05", ":", "09:", ":05", "a9:05", "09:0a", "0x:05", "1_:05", "_1:05", "09:_5", "9:005", "0:905",
    "09::5", "::::", "09:05a", "\u0660\u0669:\u0660\u0665", "0\u0669:05", "09:0\u00b2", "\uff10\uff19:05", "09\uff1a05",
    "09:05\x00", "0\x009:05", "None", "True", "545",
]


class Integers(Case):
    def test_integers(self):
        for value in (0, 1, -1, 1999, 2000, 10 ** 29, -(10 ** 29), Few.ONE):
            self.assert_yes(is_integer, value)
        for value in NO_INTEGERS:
            self.assert_no(is_integer, value)

    def test_counts(self):
        for value in (0, 1, 2, 1999, 2000, 10 ** 29, Few.NONE):
            self.assert_yes(is_count, value)
        for value in NO_INTEGERS + [-1, -2, -(10 ** 29)]:
            self.assert_no(is_count, value)

    def test_minutes(self):
        for value in (0, 1, 1440, 1998, 1999, Few.NONE):
            self.assert_yes(is_minute, value)
        for value in NO_INTEGERS + [-1, 2000, 2001, 10 ** 29, -(10 ** 29)]:
            self.assert_no(is_minute, value)

    def test_names_of_parameters(self):
        for call in (is_integer, is_count, is_minute):
            self.assert_by_name(call, value=7)
            self.assert_by_name(call, value=True)


class Clocks(Case):
    def test_told_clocks(self):
        for minute, text in CLOCKS.items():
            self.assert_told(text, clock_text, minute)
            self.assert_told(minute, clock_of, text)

    def test_all_clocks_are_read_back_and_rise(self):
        texts = [clock_text(minute) for minute in range(2000)]
        self.assertEqual(sorted(set(texts)), texts)
        self.assertEqual([f"{hour:02}:{rest:02}" for hour in range(34) for rest in range(60)][:2000], texts)
        self.assertEqual(list(range(2000)), [clock_of(text) for text in texts])

    def test_all_other_strings_of_two_numbers_are_no_clocks(self):
        for hour in range(100):
            for rest in range(100):
                if rest > 59 or hour * 60 + rest > 1999:
                    self.assert_error(InvalidText, [f"{hour:02}:{rest:02}"], clock_of, f"{hour:02}:{rest:02}")

    def test_no_clocks(self):
        for text in NO_CLOCKS + OTHERS + [545, ("09:05",), ["09:05"], b"09:05", list("09:05"), tuple("09:05")]:
            self.assert_error(InvalidText, [text], clock_of, text)

    def test_no_minutes(self):
        for minute in NO_INTEGERS + [-1, 2000, 2001, 10 ** 29, -(10 ** 29), "9", "09:05", (9,), [9]]:
            self.assert_error(InvalidMinute, [minute], clock_text, minute)

    def test_plain_results(self):
        self.assert_told("00:02", clock_text, Few.TWO)

    def test_names_of_parameters(self):
        self.assert_by_name(clock_text, minute=545)
        self.assert_by_name(clock_of, text="09:05")


if __name__ == "__main__":
    unittest.main()
