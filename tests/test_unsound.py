"""[5] to [9], [38], [82]: of which word each unsound value is."""

import unittest

from citylines.plans import is_plan, unsound
from helpers import Case, Few, NO_INTEGERS, OTHERS, even_table, listed, part, paths, put
from some_plans import WORDS, made, put_part, wide
from told_plans import CASE_B, CHARGED, RICH, alone, overview, plan_of


def spoilt(plan, *path_and_new):
    *path, new = path_and_new
    return put(plan, path, new)


class Word(Case):
    def assert_word(self, word, value):
        self.assertEqual(word, unsound(value), value)
        self.assertIs(is_plan(value), word is None)

    def assert_at(self, word, plan, *path_and_new):
        """The part of the plan at the path put so is unsound by this word, or the plan is sound where it is None."""
        self.assert_word(word, spoilt(plan, *path_and_new))


class Kinds(Word):
    def test_sound_plans(self):
        for plan in [RICH, CHARGED, CASE_B, overview(), wide((1, 2), 3)] + [made(number) for number in range(60)]:
            self.assert_word(None, plan)

    def test_values_of_all_kinds_are_of_no_form(self):
        for value in OTHERS:
            self.assert_word("form", value)
            self.assert_word("form", (value,) + RICH[1:])
        for many in range(12):
            self.assert_word("form", RICH[:many])
        for value in (RICH + (None,), list(RICH), ("PLAN",) + RICH[1:], ("plan",), RICH[1:]):
            self.assert_word("form", value)

    def test_numbers_and_words_of_other_kinds(self):
        for path in paths(RICH):
            if not path or path[0] == 0:
                continue
            word = WORDS[path[0] - 1]
            old = part(RICH, path)
            if isinstance(old, int):
                for value in NO_INTEGERS + [-1, 10 ** 29, str(old), (old,), [old]]:
                    if old is not value:
                        self.assert_at(word, RICH, *path, value)
            if isinstance(old, str):
                for value in OTHERS + [old.upper(), old + " ", [old], (old,), old.encode()]:
                    if not isinstance(value, str) or value != old:
                        self.assert_at(word, RICH, *path, value)

    def test_lists_where_a_tuple_is_asked(self):
        for path in paths(RICH):
            if path and isinstance(part(RICH, path), tuple):
                self.assert_at(WORDS[path[0] - 1], RICH, *path, list(part(RICH, path)))
                self.assert_at(WORDS[path[0] - 1], RICH, *path, listed(part(RICH, path)))

    def test_parts_of_other_kinds(self):
        for at, word in enumerate(WORDS, 1):
            for value in OTHERS:
                if (value is None and word == "spares") or (isinstance(value, tuple) and not value):
                    continue
                self.assert_at(word, RICH, at, value)
        for path in paths(RICH):
            if path and isinstance(part(RICH, path), tuple) and len(path) > 1:
                for value in NO_INTEGERS:
                    if value is not None and (not isinstance(value, tuple) or value):
                        self.assert_at(WORDS[path[0] - 1], RICH, *path, value)

    def test_empty_parts(self):
        expected = {"meets": "promises", "promises": None, "heard": "remedies", "remedies": None}
        for at, word in enumerate(WORDS, 1):
            self.assert_at(expected.get(word, word), RICH, at, ())

    def test_integers_of_a_class_of_their_own(self):
        plan = put_part(put_part(RICH, "heard", (Few.ONE, Few.NONE)), "spares", (Few.TWO, Few.NONE, Few.ONE))
        self.assert_word(None, plan)

    def test_two_parts_wrong_tell_the_first_word(self):
        wrong = {word: None for word in WORDS}
        wrong["spares"] = ()
        for one, word in enumerate(WORDS):
            for other in WORDS[one + 1:]:
                self.assert_word(word, put_part(put_part(RICH, other, wrong[other]), word, wrong[word]))
        late = put_part(CASE_B, "promises", (("driven", 1, 29),))
        self.assert_word("kept", late)
        self.assert_word("told", put_part(late, "blocks", (("block", (0, 1), (1,), None),)))
        self.assert_word("remedies", put_part(late, "remedies", ((0, ("drop", 0)),)))
        self.assert_word("spares", put_part(late, "spares", (4, 0, 0)))


class Parts(Word):
    def test_cities_lines_and_trips(self):
        self.assert_at("city", RICH, 1, 1, (2, 4, 1, 5))
        self.assert_at("city", RICH, 1, 3, 0, 1, 5)
        for at in range(3):
            self.assert_at("lines", RICH, 2, at, 4, 31)
            self.assert_at("lines", RICH, 2, at, 1, (4, 1))
        for at in (0, 3, 5):
            self.assert_at("trips", RICH, 3, at, 1, 3)
            self.assert_at("trips", RICH, 3, at, 2, ())
        self.assert_at("trips", RICH, 3, 2, 2, (3, 22))
        self.assert_at("trips", RICH, 3, 0, 2, (1, 7))

    def test_sixty_rides(self):
        stops = tuple(at % 2 for at in range(8))
        line = (stops, (1,) * 7, (0,) * 6)
        trips = [(0, tuple(range(20 * at, 20 * at + 7))) for at in range(8)]
        more = trips + [(1, (200, 201, 202, 203))]
        lines = [line, (stops[:5], (1,) * 4, (0,) * 3)]
        self.assert_word(None, plan_of(lines, more, stops=2))
        lines = [line, (stops[:6], (1,) * 5, (0,) * 4)]
        self.assert_word("trips", plan_of(lines, trips + [(1, tuple(range(200, 205)))], stops=2))

    def test_blocks(self):
        blocks = RICH[4]
        for at in range(4):
            self.assert_word("blocks", put_part(RICH, "blocks", blocks[:at] + blocks[at + 1:]))
            self.assert_word("blocks", put_part(RICH, "blocks", blocks + (blocks[at],)))
        self.assert_at("blocks", RICH, 4, 2, 1, (3,))
        self.assert_at("blocks", RICH, 4, 2, 1, (6,))
        self.assert_at("blocks", RICH, 4, 0, 2, (0,))
        self.assert_at("blocks", RICH, 4, 0, 2, (61,))
        self.assert_at("blocks", RICH, 4, 0, 3, (9, (1, 1), 1))
        for new in ((14, (15, 11), 2), (100, (15, 11), 2), (19, (15,), 2), (19, (15, 0), 2), (19, (15, 11), 0), (19, (15, 11), 10)):
            self.assert_at("blocks", RICH, 4, 1, 3, new)
        self.assert_word(None, put_part(RICH, "blocks", blocks[::-1]))

    def test_duties(self):
        duties = RICH[5]
        for at in range(5):
            self.assert_word("duties", put_part(RICH, "duties", duties[:at] + duties[at + 1:]))
            self.assert_word("duties", put_part(RICH, "duties", duties + (duties[at],)))
        self.assert_at("duties", RICH, 5, 1, 2, 0, ("walk", 1))
        self.assert_at("duties", RICH, 5, 1, 2, 0, ("walk", 121))
        self.assert_at("duties", RICH, 5, 0, 2, 0, ("rest", 0))
        self.assert_at("duties", RICH, 5, 1, 1, 1, (2, 0, 0))
        self.assert_at("duties", RICH, 5, 1, 1, 1, (2, 1, 0))
        self.assert_at("duties", RICH, 5, 2, 1, 0, (1, 0, 1))

    def test_meets(self):
        self.assert_at("meets", RICH, 6, 0, 5, 61)
        self.assert_at(None, RICH, 6, 0, 5, 60)
        self.assert_at("meets", RICH, 6, 3, RICH[6][0][:5] + (7, "news"))
        self.assert_at("meets", RICH, 6, 0, ("meet", 2, 1, 0, 1, 1, "blind"))
        self.assert_at("meets", RICH, 6, 0, ("meet", 2, 0, 2, 1, 1, "blind"))
        self.assert_at("meets", RICH, 6, 0, 2, 2)
        self.assert_at("meets", RICH, 6, 2, 6, "NEWS")

    def test_four_and_twenty_meets(self):
        # Five feeders with five takers: each pair is a meet, but for one or for none.
        lines, trips = [((0, 1), (5,), ()), ((1, 2), (5,), ())], []
        trips = [(0, (at,)) for at in range(5)] + [(1, (20 + at,)) for at in range(5)]
        meets = tuple(("meet", one, 0, other, 0, 0, "news") for one in range(5) for other in range(5, 10))
        for some in (meets[:24], meets[1:]):
            self.assert_word(None, plan_of(lines, trips, meets=some))
        self.assert_word("meets", plan_of(lines, trips, meets=meets))
        self.assert_word("meets", plan_of(lines, trips, meets=meets[:2] + meets[:1]))

    def test_promises(self):
        plan = put_part(RICH, "remedies", ())
        for promise in (
            ("meets", 3), ("meets", 0), ("leaves", 0, 1, 60), ("leaves", 5, 0, 0), ("ends", 5, 60), ("ends", 0, 1),
            ("driven", 1, 1999), ("long", 4, 1999), ("long", 0, 1000),
        ):
            for some in ((promise,), (("ends", 1, 9), promise), (promise, ("ends", 1, 9), ("ends", 1, 8))):
                self.assert_word(None, put_part(plan, "promises", some))
        for promise in (
            ("meets", 4), ("meets", 0, 0), ("meets",), ("leaves", 0, 2, 0), ("leaves", 6, 0, 0), ("leaves", 0, 1, 61),
            ("leaves", 0, 1), ("ends", 6, 0), ("ends", 0, 61), ("ends", 0, 0, 0), ("driven", 5, 99), ("driven", 0, 0),
            ("driven", 0, 2000), ("long", 5, 99), ("long", 0, 0), ("long", 0, 2000), ("long", 0), ("long", 0, 99, 0),
            ("late", 0, 0), (), "meets", None, ("meets", True), ("ends", False, 0), ("ends", 0, True), ("leaves", 0, True, 0),
        ):
            for some in ((promise,), (("ends", 1, 9), promise), (promise, ("ends", 1, 9), ("ends", 1, 8))):
                self.assert_word("promises", put_part(plan, "promises", some))

    def test_four_and_twenty_promises_no_two_alike(self):
        promises = tuple(("ends", trip, late) for trip in range(5) for late in range(5))
        self.assert_word(None, put_part(RICH, "promises", promises[:24]))
        self.assert_word("promises", put_part(RICH, "promises", promises))
        for one, other in ((0, 1), (0, 23), (11, 12), (22, 23)):
            self.assert_at("promises", put_part(RICH, "promises", promises[:24]), 7, other, promises[one])

    def test_promises_where_there_are_no_meets(self):
        self.assert_word("promises", overview()[:6] + ((), (("meets", 0),)) + overview()[8:])

    def test_delays(self):
        for trip, hop in ((0, 0), (2, 1), (5, 0)):
            self.assert_at(None, RICH, 8, 0, trip, hop, 9)
            self.assert_at("delays", RICH, 8, 0, trip, hop, 10)
        self.assert_at(None, RICH, 8, 1, 20)
        self.assert_at("delays", RICH, 8, 1, 21)
        self.assert_at(None, overview(), 8, 1, 0)
        for bounds in (RICH[8][0][:5], RICH[8][0] + ((0,),), RICH[8][0][:5] + ((3, 0),), RICH[8][0][:5] + ((),), ((1,),) + RICH[8][0][1:]):
            self.assert_at("delays", RICH, 8, 0, bounds)
        for delays in ((RICH[8][0],), RICH[8] + (0,), (5, RICH[8][0])):
            self.assert_at("delays", RICH, 8, delays)

    def test_spares(self):
        for spares in (None, (0, 0, 0), (3, 60, 60), (1, 2, 3)):
            self.assert_at(None, RICH, 9, spares)
        for spares in ((4, 0, 0), (0, 61, 0), (0, 0, 61), (0, 0), (0, 0, 0, 0), (), False, 0):
            self.assert_at("spares", RICH, 9, spares)

    def test_heard(self):
        plan = put_part(RICH, "remedies", ())
        self.assertEqual((((1, 1), (3,), (2, 2), (1,), (1, 3), (3,)), 5), plan[8])
        for heard in ((), (0,), (1, 3, 1), (1, 3, 0, 1), (0,) * 9, (0,) * 8 + (3,), (0, 0, 1, 2, 1, 1)):
            self.assert_at(None, plan, 10, heard)
        for heard in ((2,), (1, 4), (1, 3, 1, 1), (0,) * 10, (0,) * 7 + (0, 4), (1, -1), (0, 0, 2)):
            self.assert_at("heard", plan, 10, heard)


class Told(Word):
    """Vehicles and drivers in time by what is told; promises kept then."""

    def test_turns(self):
        lines, trips = [((0, 1), (5,), ()), ((2, 3), (5,), ())], [(0, (10,)), (1, (25,))]
        for turn, word in ((1, None), (9, None), (10, None), (11, "told"), (60, "told")):
            self.assert_word(word, plan_of(lines, trips, blocks=(("block", (0, 1), (turn,), None),)))
        self.assert_word("told", plan_of(lines, trips, blocks=(("block", (1, 0), (1,), None),)))

    def test_turns_between_later_trips(self):
        lines, trips = [((0, 1), (5,), ()), ((1, 0), (5,), ())], [(0, (0,)), (1, (10,)), (0, (20,)), (1, (30,))]
        for at in range(3):
            for turn, word in ((5, None), (6, "told")):
                turns = (0,) * at + (turn,) + (0,) * (2 - at)
                self.assert_word(word, plan_of(lines, trips, blocks=(("block", (0, 1, 2, 3), turns, None),)))

    def test_one_of_several(self):
        lines, trips = [((0, 1), (5,), ()), ((1, 0), (5,), ())], [(at % 2, (20 * at,)) for at in range(6)]
        for late in (None, 0, 1, 2):
            for minutes in (15, 16):
                turns = [minutes if at == late else 15 for at in range(3)]
                blocks = tuple(("block", (2 * at, 2 * at + 1), (turn,), None) for at, turn in enumerate(turns))
                duties = tuple(("duty", ((2 * at, 0, 0), (2 * at + 1, 0, 0)), (("walk", turn),)) for at, turn in enumerate(turns))
                word = None if late is None or minutes == 15 else "told"
                self.assert_word(word, plan_of(lines, trips, blocks=blocks))
                self.assert_word(word, plan_of(lines, trips, duties=duties))

    def test_batteries(self):
        lines, trips = [((0, 1), (5,), ()), ((1, 0), (5,), ())], [(0, (0,)), (1, (10,)), (0, (20,))]
        # The level is 20 less 12, and 5 minutes of 2; 18 less 13 is 5, and 10 more.
        for needs, word in (
            ((12, 13, 15), None), ((12, 18, 10), None), ((12, 19, 1), "told"), ((12, 13, 16), "told"), ((20, 10, 10), None),
            ((20, 11, 1), "told"), ((1, 20, 10), None), ((1, 20, 11), "told"),
        ):
            self.assert_word(word, plan_of(lines, trips, blocks=(("block", (0, 1, 2), (0, 0), (20, needs, 2)),)))
        for turn, word in ((5, None), (6, "told")):
            self.assert_word(word, plan_of(lines, trips, blocks=(("block", (0, 1, 2), (0, turn), (20, (1, 1, 1), 2)),)))

    def test_drivers(self):
        lines, trips = [((0, 1, 2), (5, 5), (0,)), ((2, 3), (5,), ())], [(0, (0, 5)), (1, (20,))]
        for word in ("walk", "rest"):
            for minutes, told in ((5, None), (10, None), (11, "told"), (120, "told")):
                duties = (("duty", ((0, 0, 0),), ()), ("duty", ((0, 1, 1), (1, 0, 0)), ((word, minutes),)))
                self.assert_word(told, plan_of(lines, trips, duties=duties))
        duties = (("duty", ((1, 0, 0), (0, 0, 1)), (("walk", 5),)),)
        self.assert_word("told", plan_of(lines, trips, duties=duties))
        duties = (("duty", ((0, 1, 1), (1, 0, 0), (0, 0, 0)), (("walk", 0), ("walk", 5))),)
        self.assert_word("told", plan_of(lines, trips, duties=duties))

    def test_spares_and_remedies_are_not_looked_at(self):
        lines, trips = [((0, 1), (5,), ()), ((2, 3), (5,), ())], [(0, (10,)), (1, (25,))]
        late = plan_of(lines, trips, blocks=(("block", (0, 1), (11,), None),), spares=(3, 0, 0))
        self.assert_word("told", late)
        self.assert_word("told", put_part(late, "remedies", ((0, ("drop", 1)),)))
        self.assert_word("told", put_part(late, "remedies", ((0, ("spare", 1, 0)),)))

    def test_spans(self):
        lines = [((0, 1, 2), (5, 5), (0,)), ((2, 3), (5,), ()), ((3, 0), (5,), ())]
        trips = [(0, (2, 7)), (1, (20,)), (2, (40,))]
        for way, stretch in (("walk", 23), ("rest", 10)):
            breaks = ((way, 8), ("walk", 9))
            duties = (("duty", ((0, 0, 0),), ()), ("duty", ((0, 1, 1), (1, 0, 0), (2, 0, 0)), breaks))
            plan = plan_of(lines, trips, duties=duties)
            most = 38 if way == "walk" else 25
            for word, span in (("driven", most), ("long", 38)):
                for minutes, told in ((1999, None), (span, None), (span - 1, "kept"), (stretch, "kept"), (1, "kept")):
                    self.assert_word(told, put_part(plan, "promises", ((word, 1, minutes),)))
                    self.assert_word(told, put_part(plan, "promises", (("driven", 0, 5), (word, 1, minutes), ("ends", 0, 0))))
            self.assert_word(None, put_part(plan, "promises", (("driven", 0, 5), ("long", 0, 5))))
            self.assert_word("kept", put_part(plan, "promises", (("long", 0, 4),)))

    def test_spans_behind_a_rest_of_the_first_stretch(self):
        lines = [((0, 1), (9,), ()), ((1, 2), (5,), ())]
        duties = (("duty", ((0, 0, 0), (1, 0, 0)), (("rest", 1),)),)
        plan = plan_of(lines, [(0, (0,)), (1, (10,))], duties=duties)
        for minutes, told in ((9, None), (8, "kept")):
            self.assert_word(told, put_part(plan, "promises", (("driven", 0, minutes),)))

    def test_remedies_do_not_make_a_promise_kept(self):
        plan = put_part(CASE_B, "promises", (("driven", 1, 29),))
        self.assert_word("kept", plan)
        self.assert_word("kept", put_part(plan, "remedies", ((0, ("drop", 1)),)))
        self.assert_word(None, put_part(put_part(CASE_B, "remedies", ((0, ("drop", 1)),)), "promises", (("long", 1, 30),)))


class Remedies(Word):
    """[82]: put so that they can be put, and so that they cannot."""

    def assert_remedies(self, word, plan, *rows):
        self.assert_word(word, put_part(plan, "remedies", rows))

    def heard(self, many):
        """Three trips of two rides, the first two one block, the last two one duty; all meets."""
        return plan_of(
            [((0, 1, 2), (4, 4), (0,)), ((2, 3, 0), (4, 4), (0,)), ((2, 1, 3), (4, 4), (0,))],
            [(0, (0, 4)), (1, (20, 24)), (2, (40, 44))],
            blocks=alone((0, 1), (2,)),
            duties=(("duty", ((0, 0, 1),), ()), ("duty", ((1, 0, 1), (2, 0, 1)), (("walk", 5),))),
            meets=(("meet", 0, 1, 1, 0, 0, "news"), ("meet", 1, 0, 2, 1, 0, "blind")), heard=(0,) * many,
        )

    def test_positions_never_fall_and_are_heard(self):
        wait = ("wait", 1, 3)
        for positions, word in (
            ((0,), None), ((3,), None), ((4,), "remedies"), ((0, 0), None), ((1, 3), None), ((3, 3), None), ((3, 2), "remedies"),
            ((0, 2, 1), "remedies"), ((0, 1, 2, 3), None),
        ):
            self.assert_remedies(word, self.heard(3), *[(position, wait) for position in positions])
        self.assert_remedies("remedies", self.heard(0), (1, wait))
        for row in ((True, wait), (False, wait), (0,), (0, wait, 0), [0, wait], wait, (None, wait), ("0", wait)):
            self.assert_remedies("remedies", self.heard(3), row)

    def test_eight_remedies(self):
        rows = [(0, ("wait", 1, at)) for at in range(9)]
        self.assert_remedies(None, self.heard(0), *rows[:8])
        self.assert_remedies("remedies", self.heard(0), *rows)

    def test_forms(self):
        for remedy in (
            ("wait", 0, 0), ("wait", 1, 60), ("free", 0), ("free", 1), ("spare", 1, 0), ("spare", 1, 60), ("drop", 2), ("cut", 2, 0),
        ):
            self.assert_remedies(None, self.heard(0), (0, remedy))
            self.assert_remedies("remedies", self.heard(0), (0, list(remedy)))
            self.assert_remedies("remedies", self.heard(0), (0, remedy + (0,)))
            self.assert_remedies("remedies", self.heard(0), (0, remedy[:-1]))
            self.assert_remedies("remedies", self.heard(0), (0, remedy[:-1] + (True,)))
        for remedy in OTHERS + [
            ("wait", 2, 0), ("wait", 0, 61), ("free", 2), ("spare", 3, 0), ("spare", 1, 61), ("drop", 3), ("cut", 2, 2), ("cut", 3, 0),
            ("cut", 2, -1), ("hold", 0), ("Free", 0), ("free",), ("wait", -1, 0), ("drop", -1),
        ]:
            self.assert_remedies("remedies", self.heard(0), (0, remedy))

    def test_wait_and_free_are_of_takers_still_to_leave(self):
        # The takers' rides are at the positions 2 and 5.
        for remedy, last in ((("wait", 0, 9), 2), (("free", 0), 2), (("wait", 1, 9), 5), (("free", 1), 5)):
            for position in range(7):
                self.assert_remedies(None if position <= last else "remedies", self.heard(6), (position, remedy))

    def test_wait_and_free_are_of_meets_that_are_not_gone(self):
        for remedy in (("wait", 1, 9), ("free", 1)):
            self.assert_remedies(None, self.heard(0), (0, ("wait", 1, 4)), (0, remedy))
            self.assert_remedies("remedies", self.heard(0), (0, ("free", 1)), (0, remedy))
            self.assert_remedies("remedies", self.heard(0), (0, ("drop", 2)), (0, remedy))
            self.assert_remedies("remedies", self.heard(0), (0, ("cut", 2, 0)), (0, remedy))
            self.assert_remedies(None, self.heard(0), (0, ("free", 0)), (0, remedy))
            # The feeder is not run.
            self.assert_remedies("remedies", self.heard(0), (0, ("drop", 2)), (0, ("drop", 1)), (0, remedy))

    def test_a_meet_whose_feeder_is_not_run_is_gone(self):
        plan = plan_of(
            [((0, 1), (4,), ()), ((1, 3), (4,), ())], [(0, (0,)), (1, (20,))], meets=(("meet", 0, 0, 1, 0, 0, "news"),),
        )
        self.assert_remedies(None, plan, (0, ("drop", 0)))
        for remedy in (("wait", 0, 3), ("free", 0)):
            self.assert_remedies("remedies", plan, (0, ("drop", 0)), (0, remedy))

    def test_spare(self):
        for trip in (0, 2):
            self.assert_remedies("remedies", self.heard(0), (0, ("spare", trip, 0)))
        for position in range(5):
            self.assert_remedies(None if position <= 2 else "remedies", self.heard(4), (position, ("spare", 1, 0)))
        self.assert_remedies(None, self.heard(0), (0, ("spare", 1, 0)), (0, ("spare", 1, 9)))
        gone = (0, ("drop", 2)), (0, ("drop", 1))
        self.assert_remedies("remedies", self.heard(0), *gone, (0, ("spare", 1, 0)))
        self.assert_remedies(None, self.heard(0), (0, ("drop", 2)), (0, ("cut", 1, 0)), (0, ("spare", 1, 0)))

    def test_drop(self):
        for position in range(7):
            self.assert_remedies(None if position <= 4 else "remedies", self.heard(6), (position, ("drop", 2)))
        self.assert_remedies("remedies", self.heard(0), (0, ("drop", 2)), (0, ("drop", 2)))
        # Behind trip 0 its block has trip 1, behind trip 1 its duty has trip 2.
        self.assert_remedies("remedies", self.heard(0), (0, ("drop", 0)))
        self.assert_remedies("remedies", self.heard(0), (0, ("drop", 1)))
        self.assert_remedies(None, self.heard(0), (0, ("drop", 2)), (0, ("drop", 1)), (0, ("drop", 0)))
        self.assert_remedies("remedies", self.heard(0), (0, ("drop", 2)), (0, ("drop", 0)))
        self.assert_remedies("remedies", self.heard(0), (0, ("cut", 2, 0)), (0, ("drop", 1)))
        self.assert_remedies(None, self.heard(0), (0, ("cut", 2, 0)), (0, ("drop", 2)))

    def test_cut(self):
        for position in range(7):
            self.assert_remedies(None if position <= 5 else "remedies", self.heard(6), (position, ("cut", 2, 0)))
        self.assert_remedies("remedies", self.heard(0), (0, ("cut", 2, 1)))
        self.assert_remedies("remedies", self.heard(0), (0, ("cut", 2, 0)), (0, ("cut", 2, 0)))
        self.assert_remedies("remedies", self.heard(0), (0, ("drop", 2)), (0, ("cut", 2, 0)))
        for trip in (0, 1):
            self.assert_remedies("remedies", self.heard(0), (0, ("cut", trip, 0)))
        self.assert_remedies(None, self.heard(0), (0, ("drop", 2)), (0, ("cut", 1, 0)))
        self.assert_remedies("remedies", self.heard(0), (0, ("drop", 2)), (0, ("cut", 1, 0)), (0, ("cut", 0, 0)))
        self.assert_remedies(None, self.heard(0), (0, ("drop", 2)), (0, ("drop", 1)), (0, ("cut", 0, 0)))

    def test_pieces_of_the_cut_trip(self):
        line = ((0, 1, 2, 3, 0), (4, 4, 4, 4), (0, 0, 0))
        trips = [(0, (0, 4, 8, 12)), (1, (60,))]
        lines = [line, ((0, 1), (4,), ())]
        duties = (
            ("duty", ((0, 0, 0), (1, 0, 0)), (("walk", 9),)), ("duty", ((0, 1, 2),), ()), ("duty", ((0, 3, 3),), ()),
        )
        plan = plan_of(lines, trips, duties=duties)
        # The first piece is not the last one of its duty; the cut may be behind it, but a drop takes it.
        for hop in range(3):
            self.assert_remedies(None, plan, (0, ("cut", 0, hop)))
        self.assert_remedies("remedies", plan, (0, ("drop", 0)))
        self.assert_remedies(None, plan, (0, ("drop", 1)), (0, ("drop", 0)))
        self.assert_remedies(None, plan, (0, ("cut", 0, 2)), (0, ("cut", 0, 1)), (0, ("cut", 0, 0)))
        self.assert_remedies("remedies", plan, (0, ("cut", 0, 0)), (0, ("cut", 0, 1)))
        duties = (("duty", ((0, 0, 2), (1, 0, 0)), (("walk", 9),)), ("duty", ((0, 3, 3),), ()))
        plan = put_part(plan, "duties", duties)
        for hop, word in ((0, "remedies"), (1, "remedies"), (2, None)):
            self.assert_remedies(word, plan, (0, ("cut", 0, hop)))

    def test_two_pieces_of_one_trip_in_one_duty(self):
        # One drives the first and the third hop; neither hop can be taken while the other piece stands behind.
        lines = [((0, 1, 2, 3), (4, 4, 4), (0, 0)), ((1, 2), (4,), ())]
        duties = (("duty", ((0, 0, 0), (1, 0, 0), (0, 2, 2)), (("walk", 0), ("walk", 0))), ("duty", ((0, 1, 1),), ()))
        plan = plan_of(lines, [(0, (0, 4, 30)), (1, (10,))], duties=duties)
        self.assert_remedies("remedies", plan, (0, ("drop", 0)))
        self.assert_remedies("remedies", plan, (0, ("drop", 1)))
        self.assert_remedies(None, plan, (0, ("cut", 0, 0)))
        self.assert_remedies(None, plan, (0, ("cut", 0, 1)), (0, ("drop", 1)), (0, ("drop", 0)))

    def test_nothing_is_heard_of_what_is_not_run(self):
        plan = put_part(self.heard(0), "delays", (((1, 1), (1, 1), (1, 1)), 6))
        for heard, word in (
            ((1, 1, 1, 1, 0, 0), None), ((1, 1, 1, 1, 1), "remedies"), ((0,) * 5 + (1,), "remedies"), ((1, 1, 1, 1), None),
        ):
            self.assert_remedies(word, put_part(plan, "heard", heard), (0, ("drop", 2)))
        for heard, word in (((1, 1, 1, 1, 1, 0), None), ((1, 1, 1, 1, 1, 1), "remedies"), ((1, 1, 1, 1, 1), None)):
            self.assert_remedies(word, put_part(plan, "heard", heard), (3, ("cut", 2, 0)))
        self.assert_remedies("heard", put_part(plan, "heard", (0, 0, 0, 0, 2)), (0, ("drop", 2)))


if __name__ == "__main__":
    unittest.main()
