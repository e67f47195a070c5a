"""The examples of the document, just as they stand; names go on from one to the next."""

import doctest
import unittest

BASICS = """
>>> from citylines.basics import clock_of, clock_text, is_minute
>>> [clock_text(9), clock_text(1445), clock_of("33:19"), is_minute(2000), is_minute(True)]
['00:09', '24:05', 1999, False, False]
"""

CITIES = """
>>> from citylines.cities import change_between, closed, drive_between, is_city, is_closed, walk_between
>>> city = ("city", (1, 1, 2), (2, 1, 3), ((0, 4, 9), (4, 0, 6), (9, 6, 0)), ((0, 3, 7), (3, 0, 5), (7, 5, 0)))
>>> [is_city(city), change_between(city, 0, 0), change_between(city, 0, 2), walk_between(city, 0, 0), drive_between(city, 2, 0)]
[True, 2, 9, 0, 7]
>>> [is_closed(((0, 4, 20), (4, 0, 6), (20, 6, 0))), closed(((0, 4, 20), (4, 0, 6), (20, 6, 0)))]
[False, ((0, 4, 10), (4, 0, 6), (10, 6, 0))]
"""

LINES = """
>>> from citylines.lines import are_lines, is_line, least_between
>>> lines = (("line", (0, 1, 2), (4, 6), (1,), 3), ("line", (2, 0), (8,), (), 5))
>>> [are_lines(city, lines), is_line(city, ("line", (0, 1), (2,), (), 3)), least_between(lines[0], 0, 1), least_between(lines[0], 1, 1)]
[True, False, 11, 6]
"""

EXAMPLES = [("basics", BASICS), ("cities", CITIES), ("lines", LINES)]


class Examples(unittest.TestCase):
    def test_all_in_their_sequence(self):
        names = {}
        for title, text in EXAMPLES:
            example = doctest.DocTestParser().get_doctest(text, names, title, None, 0)
            self.assertTrue(example.examples)
            told = []
            runner = doctest.DocTestRunner(verbose=False)
            runner.run(example, out=told.append, clear_globs=False)
            self.assertEqual(0, runner.failures, "".join(told))
            names = example.globs


if __name__ == "__main__":
    unittest.main()
