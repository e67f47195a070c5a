"""[105] to [109]: the desk: deeds, questions, states, what is taken back and done again, papers, trials."""

import random
import unittest

from citylines.claims import is_paper_of, is_true, paper_of
from citylines.desk import Desk, Trial, tried
from citylines.errors import (
    BadText, CommandFailed, InvalidClaim, InvalidCommand, InvalidDeeds, InvalidHeard, InvalidPaper, InvalidPassages,
    InvalidPosition, InvalidRemedy, InvalidRide, InvalidTickets, InvalidWay, LabelTaken, NameTaken, NothingToRedo,
    NothingToUndo, TooMany, UnknownLabel, UnknownName, UnsoundPlan,
)
from citylines.texts import plan_of, plan_text, way_text
from desking import Reckoning
from helpers import Case, OTHERS, is_plain
from ordering import is_line
from riding import made_way
from some_plans import ROWS_4001, made, wide
from told_plans import CASE_D, RICH, case_e, overview

ROWS = [
    "zones 1 1 2", "changes 0 1 0", "walks 0 5 9", "walks 5 0 4", "walks 9 4 0", "drives 0 2 4", "drives 2 0 2", "drives 4 2 0",
    "line 0 1 / 10 / - / 5", "line 1 2 / 8 / - / 5", "trip 0 / 00:00", "trip 1 / 00:12", "block 0 / -", "block 1 / -",
    "duty 0 0 0", "duty 1 0 0", "meet 0 0 1 0 3 news", "promise leaves 1 0 2", "bounds 9", "bounds 0", "budget 9",
]
TEXT = "\n".join(ROWS)
PLAN = plan_of(TEXT)
ATTRIBUTES = {
    "TooMany": ("what", "limit"), "BadText": ("line",), "UnsoundPlan": ("word",), "LabelTaken": ("label",), "NameTaken": ("name",),
    "InvalidHeard": ("position",), "CommandFailed": ("position",), "InvalidDeeds": ("position",), "NothingToUndo": (), "NothingToRedo": (),
}


def told_by(error):
    names = ATTRIBUTES.get(type(error).__name__, ("value",))
    return (type(error), [getattr(error, name) for name in names], [type(getattr(error, name)) for name in names])


def outcome(call, *arguments):
    """What a call returns, or the error that it raises."""
    try:
        return call(*arguments)
    except (ValueError, LookupError, RuntimeError, ArithmeticError) as error:
        return told_by(error)


def all_of(desk):
    """All that can be seen of a desk."""
    return (
        desk.names, desk.labels, len(desk), desk.lines(), [desk[name] for name in desk.names], [desk.claim_of(label) for label in desk.labels],
        desk.do("states"), [desk.do("claimed " + label) for label in desk.labels], [desk.do("sort " + name) for name in desk.names],
        [desk.do("show " + name) for name in desk.names], [desk.fits(label) for label in desk.labels],
    )


def made_desk(*lines):
    desk = Desk()
    desk.do_all(*lines)
    return desk


class Told(Case):
    def assert_fails(self, kind, values, desk, line):
        """The command raises just this error, in do, in a call, and as the cause in do_all; nothing is changed."""
        before = all_of(desk)
        for call in (desk.do, desk):
            found = outcome(call, line)
            self.assertEqual((kind, values), found[:2], found)
            self.assertEqual([type(value) for value in values], found[2])
            self.assertEqual(before, all_of(desk))
        for call in (desk.do_all, desk.attempt):
            with self.assertRaises(CommandFailed) as held:
                call("names", "tickets zz", "drop zz", line, "names")
            self.assertEqual(3, held.exception.position)
            self.assertEqual((kind, values), told_by(held.exception.__cause__)[:2])
            self.assertEqual(before, all_of(desk))

    def assert_answers(self, desk, *rows):
        for line, answer in rows:
            found = desk.do(line)
            self.assertEqual(answer, found, line)
            self.assertIs(type(found), str)


class Deeds(Told):
    def test_the_example(self):
        desk = Desk()
        self.assert_answers(
            desk, ("plan p " + TEXT, "-"), ("claim k keeps p", "k false"), ("can p", "0"), ("least p", "4,0"), ("budget p 3", "k true"),
            ("hear p 3", "-"), ("next p", "1 0"), ("heard p", "0 0 0 13"), ("moment p", "0"), ("sign p 1 least", "14"), ("remedy p free 0", "-"),
            ("sign p 1 now", "12"), ("undo", "remedy p free 0"), ("late p 1", "2"), ("copy q p", "-"), ("claim s same p q", "s true"),
            ("part q 0", "-"), ("state s", "true"), ("drop q", "s gone"), ("states", "k true, s gone"),
        )

    def test_what_is_kept(self):
        desk = made_desk("plan p " + TEXT, "way w p 0 00:00 ride 0 1 there", "tickets t", "passages s")
        self.assert_same(PLAN, desk["p"])
        self.assert_same((0, 0, ("ride", 0, 1, ("there",))), desk["w"])
        self.assert_same([], desk["t"])
        self.assert_same([], desk["s"])
        desk.do_all("ticket t 300 60 1,2 1", "ticket t 500 60 1 2", "passage s 0 20 1,2", "passage s 30 40 2")
        self.assert_same([("ticket", 300, 60, (1, 2), 1), ("ticket", 500, 60, (1,), 2)], desk["t"])
        self.assert_same([(0, 20, (1, 2)), (30, 40, (2,))], desk["s"])
        self.assertIsNot(desk["t"], desk["t"])
        desk["t"].append(None)
        self.assertEqual(2, len(desk["t"]))
        self.assert_answers(
            desk, ("show t", "300 60 1,2 1\n500 60 1 2"), ("show s", "0 20 1,2\n30 40 2"), ("strike t 0", "-"), ("show t", "500 60 1 2"),
            ("strike s 1", "-"), ("show s", "0 20 1,2"), ("strike s 0", "-"), ("show s", "-"), ("show p", TEXT), ("show w", "0 00:00 ride 0 1 there"),
            ("price t s", "0"), ("passage s 0 20 1", "-"), ("price t s", "500"), ("passage s 0 20 2", "-"), ("price t s", "-"),
            ("sort p", "plan"), ("sort w", "way"), ("sort t", "tickets"), ("sort s", "passages"), ("names", "p s t w"),
        )

    def test_plans_changed_by_each_deed(self):
        for line, changes in (
            ("budget p 3", {8: (((9,), (0,)), 3)}), ("bound p 1 0 7", {8: (((9,), (7,)), 9)}), ("spares p 1 2 3", {9: (1, 2, 3)}), ("spares p -", {}),
            ("told p 1 00:15", {3: (("trip", 0, (0,)), ("trip", 1, (15,)))}), ("told p 0 00:01", {3: (("trip", 0, (1,)), ("trip", 1, (12,)))}),
            ("wait p 0 5 blind", {6: (("meet", 0, 0, 1, 0, 5, "blind"),)}), ("part p 0", {6: ()}), ("promise p meets 0", {7: PLAN[7] + (("meets", 0),)}),
            ("promise p leaves 0 0 4", {7: PLAN[7] + (("leaves", 0, 0, 4),)}), ("promise p ends 1 2", {7: PLAN[7] + (("ends", 1, 2),)}),
            ("promise p driven 0 10", {7: PLAN[7] + (("driven", 0, 10),)}), ("promise p long 1 99", {7: PLAN[7] + (("long", 1, 99),)}),
            ("release p 0", {7: ()}), ("hear p 4", {10: (4,)}), ("hear p 4,0", {10: (4, 0)}), ("remedy p wait 0 9", {11: ((0, ("wait", 0, 9)),)}),
            ("remedy p free 0", {11: ((0, ("free", 0)),)}), ("remedy p drop 1", {11: ((0, ("drop", 1)),)}),
        ):
            desk = made_desk("plan p " + TEXT)
            self.assert_answers(desk, (line, "-"))
            self.assert_same(tuple(changes.get(at, part) for at, part in enumerate(PLAN)), desk["p"])
            self.assert_answers(desk, ("undo", line))
            self.assert_same(PLAN, desk["p"])
        desk = made_desk("plan p " + TEXT, "part p 0")
        self.assert_answers(desk, ("meet p 0 0 1 0 3 news", "-"))
        self.assert_same(PLAN, desk["p"])

    def test_spares_and_cuts(self):
        rich = plan_text(RICH)
        desk = made_desk("plan p " + rich)
        self.assert_answers(desk, ("spares p -", "-"), ("undo", "spares p -"), ("spares p 0 0 0", "-"))
        self.assertEqual((0, 0, 0), desk["p"][9])
        bare = plan_text(RICH[:10] + ((), ()))
        desk = made_desk("plan p " + bare, "remedy p spare 3 1", "remedy p cut 4 0", "hear p 1,0")
        self.assertEqual(((0, ("spare", 3, 1)), (0, ("cut", 4, 0))), desk["p"][11])
        self.assertEqual((1, 0), desk["p"][10])

    def test_a_meet_goes_with_its_promise_and_its_remedies(self):
        desk = made_desk("plan p " + plan_text(RICH))
        desk.do("part p 2")
        plan = desk["p"]
        self.assertEqual(RICH[6][:2] + RICH[6][3:], plan[6])
        self.assertEqual(tuple(("meets", 2) if row == ("meets", 3) else row for row in RICH[7] if row != ("meets", 2)), plan[7])
        self.assertEqual(((0, ("wait", 2, 4)), (1, ("spare", 3, 1)), (2, ("free", 1)), (2, ("drop", 5)), (2, ("cut", 4, 0))), plan[11])
        desk.do("part p 1")
        self.assertEqual(((0, ("wait", 1, 4)), (1, ("spare", 3, 1)), (2, ("drop", 5)), (2, ("cut", 4, 0))), desk["p"][11])
        self.assertIn(("meets", 1), desk["p"][7])
        desk.do("part p 1")
        self.assertEqual(((1, ("spare", 3, 1)), (2, ("drop", 5)), (2, ("cut", 4, 0))), desk["p"][11])
        self.assertFalse([row for row in desk["p"][7] if row[0] == "meets"])
        self.assert_fails(InvalidPosition, [1], desk, "part p 1")

    def test_what_is_heard_stays_by_positions(self):
        desk = made_desk("plan p " + TEXT, "part p 0", "hear p 4")
        self.assert_answers(desk, ("heard p", "0 0 0 14"), ("next p", "1 0"), ("moment p", "0"))
        # The trip that is told otherwise is the second one now; what is heard is the other one's, if that may be as late.
        self.assert_fails(UnsoundPlan, ["heard"], desk, "told p 0 00:20")
        self.assert_answers(desk, ("bound p 1 0 9", "-"), ("told p 0 00:20", "-"), ("heard p", "1 0 12 24"), ("next p", "0 0"), ("moment p", "12"))
        self.assertEqual((4,), desk["p"][10])

    def test_errors_of_names_and_labels(self):
        desk = made_desk("plan p " + TEXT, "way w p 0 00:00 there", "tickets t", "ticket t 300 60 1,2 1", "passages s", "claim k keeps p")
        for line in ("plan p zones", "plan t " + TEXT, "way p nothing 0", "tickets s", "passages w", "copy t nothing", "tickets t", "copy p p"):
            self.assert_fails(NameTaken, [line.split(" ")[1]], desk, line)
        for line in ("claim k keeps nothing", "claim k breaks p", "claim k within s t 0"):
            self.assert_fails(LabelTaken, ["k"], desk, line)
        for line, name in (
            ("way x q 0", "q"), ("way x w 0", "w"), ("ticket p 0 0 0 0", "p"), ("ticket s 0 0 0 0", "s"), ("passage t 0 0 0", "t"), ("strike p 0", "p"),
            ("strike w 0", "w"), ("strike q 9", "q"), ("budget w 3", "w"), ("bound t 0 0 0", "t"), ("spares q -", "q"), ("spares s 9 9 9", "s"),
            ("told q 9 00:00", "q"), ("meet t 0 0 1 0 3 news", "t"), ("wait q 9 0 news", "q"), ("part q 9", "q"), ("promise w meets 9", "w"),
            ("release q 9", "q"), ("hear q 99", "q"), ("remedy t free 9", "t"), ("copy x q", "q"), ("drop q", "q"), ("claim x keeps t", "t"),
            ("claim x safe q 9 now", "q"), ("claim x surely w p 0", "w"), ("claim x surely p t 0", "t"), ("claim x surely q t 0", "q"),
            ("claim x alike p q", "q"), ("claim x alike q r", "q"), ("claim x same w p", "w"), ("claim x within s t 0", "s"),
            ("claim x within t t 0", "t"), ("claim x above q q 0", "q"), ("sort q", "q"), ("show q", "q"), ("equal p q", "q"), ("equal q r", "q"),
            ("heard t", "t"), ("next w", "w"), ("moment q", "q"), ("sign t 9 least", "t"), ("can q", "q"), ("least s", "s"), ("late q 9", "q"),
            ("price s t", "s"), ("price t t", "t"), ("price p p", "p"),
        ):
            self.assert_fails(UnknownName, [name], desk, line)
        for line in ("forget x", "state p", "claimed x", "state x"):
            self.assert_fails(UnknownLabel, [line.split(" ")[1]], desk, line)

    def test_errors_of_the_tables(self):
        desk = made_desk("plan p " + TEXT, "tickets t", "passages s", "tickets e", "ticket t 300 60 1 1", "passage s 0 20 1")
        ticket, passage = ("ticket", 300, 60, (1,), 1), (0, 20, (1,))
        for line, kind, values in (
            ("plan q zones", BadText, [1]), ("plan q " + TEXT + "\n", BadText, [22]), ("plan q " + TEXT.replace("budget 9", "budget 21"), UnsoundPlan, ["delays"]),
            ("way q p there", BadText, [1]), ("way q p 3 00:00 there", InvalidWay, [(3, 0, ("there",))]), ("way q p 0 00:00 ride 1 2 there", InvalidWay, [(0, 0, ("ride", 1, 2, ("there",)))]),
            ("ticket t 0 60 1 1", InvalidTickets, [[ticket, ("ticket", 0, 60, (1,), 1)]]), ("ticket t 1 60 2,1 1", InvalidTickets, [[ticket, ("ticket", 1, 60, (2, 1), 1)]]),
            ("passage s 20 20 1", InvalidPassages, [[passage, (20, 20, (1,))]]), ("strike t 1", InvalidPosition, [1]), ("strike e 0", InvalidPosition, [0]),
            ("budget p 21", UnsoundPlan, ["delays"]), ("bound p 0 1 2", InvalidRide, [(0, 1)]), ("bound p 2 0 2", InvalidRide, [(2, 0)]),
            ("bound p 0 0 10", UnsoundPlan, ["delays"]), ("spares p 4 0 0", UnsoundPlan, ["spares"]), ("told p 2 00:00", InvalidPosition, [2]),
            ("told p 1 00:10", UnsoundPlan, ["meets"]), ("told p 1 00:12,00:20", UnsoundPlan, ["trips"]), ("meet p 0 0 1 0 3 news", UnsoundPlan, ["meets"]),
            ("meet p 0 0 1 1 3 news", UnsoundPlan, ["meets"]), ("wait p 1 0 news", InvalidPosition, [1]), ("wait p 0 61 news", UnsoundPlan, ["meets"]),
            ("part p 1", InvalidPosition, [1]), ("promise p leaves 1 0 2", UnsoundPlan, ["promises"]), ("promise p driven 0 9", UnsoundPlan, ["kept"]),
            ("promise p meets 1", UnsoundPlan, ["promises"]), ("release p 1", InvalidPosition, [1]), ("hear p 10", InvalidHeard, [0]),
            ("hear p 4,0,0", InvalidHeard, [2]), ("hear p 0,1", InvalidHeard, [1]), ("remedy p free 1", InvalidRemedy, [("free", 1)]),
            ("remedy p spare 1 3", InvalidRemedy, [("spare", 1, 3)]), ("sign p 2 least", InvalidRide, [2]), ("late p 2", InvalidRide, [2]),
            ("price e s", InvalidTickets, [[]]), ("undo", None, None), ("redo", NothingToRedo, []),
            ("claim x safe p 2 now", InvalidClaim, [("safe", PLAN, 2, "now", 0)]), ("claim x safe p 1 least 61", InvalidClaim, [("safe", PLAN, 1, "least", 61)]),
            ("claim x within e s 5", InvalidClaim, [("within", [], [passage], 5)]), ("claim x above t s 100000", InvalidClaim, [("above", [ticket], [passage], 100000)]),
        ):
            if kind is not None:
                self.assert_fails(kind, values, desk, line)
        bare = Desk()
        for line, kind in (("undo", NothingToUndo), ("redo", NothingToRedo)):
            self.assertEqual((kind, [], []), outcome(bare.do, line))
        for value in OTHERS + ["", "what", "names ", "plan p", "undo 1"]:
            if not isinstance(value, str) or not is_line(value):
                for call in (desk.do, desk):
                    with self.assertRaises(InvalidCommand) as held:
                        call(value)
                    self.assertIs(held.exception.value, value)
                for call in (desk.do_all, desk.attempt):
                    with self.assertRaises(CommandFailed) as held:
                        call(value)
                    self.assertIs(held.exception.__cause__.value, value)

    def test_ride_of_a_sign_must_be_run_and_not_be_heard(self):
        desk = made_desk("plan p " + TEXT, "hear p 4")
        self.assert_fails(InvalidRide, [0], desk, "sign p 0 least")
        self.assert_fails(InvalidRide, [0], desk, "sign p 0 now")
        self.assert_answers(desk, ("sign p 1 least", "15"), ("sign p 1 now", "15"), ("remedy p drop 1", "-"), ("late p 1", "-"), ("late p 0", "4"))
        self.assert_fails(InvalidRide, [1], desk, "sign p 1 now")
        self.assert_answers(desk, ("hear p 0", "-"), ("heard p", "0 0 0 14\n1 0 - -"), ("next p", "-"), ("moment p", "0"))

    def test_claims_of_two_plans_and_a_way(self):
        desk = made_desk("plan p " + TEXT, "copy q p", "budget q 3", "way w p 0 00:00 there", "tickets t", "ticket t 1 1 1 1", "passages s")
        self.assert_fails(InvalidClaim, [("alike", PLAN, desk["q"])], desk, "claim x alike p q")
        other = overview()
        desk.do("plan r " + plan_text(other))
        self.assert_fails(InvalidClaim, [("same", PLAN, other)], desk, "claim x same p r")
        # A way of one plan is kept as it is; of another plan it may be none.
        desk.do("way far r 3 00:00 there")
        self.assert_fails(InvalidClaim, [("surely", PLAN, desk["far"], 5)], desk, "claim x surely p far 5")
        self.assert_answers(desk, ("claim x surely p w 0", "x true"), ("claim y perhaps p w 0", "y false"), ("claim z same p q", "z true"))
        self.assert_answers(desk, ("claim a within t s 0", "a true"), ("claim b above t s 0", "b false"))

    def test_equal(self):
        desk = made_desk("plan p " + TEXT, "copy q p", "tickets t", "passages s", "tickets u", "way w p 0 00:00 there", "way v p 0 00:00 there")
        self.assert_answers(
            desk, ("equal p q", "yes"), ("equal p p", "yes"), ("equal t s", "no"), ("equal t u", "yes"), ("equal w v", "yes"), ("equal w p", "no"),
            ("budget q 3", "-"), ("equal p q", "no"), ("budget q 9", "-"), ("equal p q", "yes"), ("ticket t 1 1 1 1", "-"), ("equal t u", "no"),
        )

    def test_plain_even_of_strings_of_a_class_of_their_own(self):
        class Line(str):
            pass

        desk = Desk()
        for line in ("plan p " + TEXT, "claim k keeps p", "way w p 0 00:00 there", "copy q p"):
            desk.do(Line(line))
        self.assertTrue(all(type(line) is str for line in desk.lines()))
        self.assertTrue(all(type(name) is str for name in desk.names + desk.labels))
        self.assertIs(type(desk.do("claimed k")), str)
        self.assertTrue(is_plain(desk.claim_of(Line("k"))))
        self.assertTrue(is_plain(desk["p"]))


class Limits(Told):
    def test_names(self):
        desk = made_desk(*[f"tickets t{at}" for at in range(12)])
        for line in ("tickets a", "passages a", "copy a t0"):
            self.assert_fails_full("names", 12, desk, line)
        self.assertEqual((BadText, [1], [int]), outcome(desk.do, "plan a zones"))
        self.assertEqual((TooMany, ["names", 12], [str, int]), outcome(desk.do, "plan a " + TEXT))
        self.assertEqual((NameTaken, ["t0"], [str]), outcome(desk.do, "tickets t0"))
        self.assertEqual((UnknownName, ["x"], [str]), outcome(desk.do, "copy a x"))
        self.assert_answers(desk, ("drop t0", "-"), ("tickets a", "-"))

    def assert_fails_full(self, what, limit, desk, line):
        before = all_of(desk)
        self.assertEqual((TooMany, [what, limit], [str, int]), outcome(desk.do, line))
        self.assertEqual(before, all_of(desk))

    def test_labels(self):
        desk = made_desk("plan p " + TEXT, *[f"claim k{at} keeps p" for at in range(8)])
        self.assert_fails_full("labels", 8, desk, "claim a breaks p")
        self.assertEqual((InvalidClaim, [("safe", PLAN, 9, "now", 0)], [tuple]), outcome(desk.do, "claim a safe p 9 now"))
        self.assert_answers(desk, ("forget k3", "-"), ("claim a breaks p", "a true"))

    def test_tickets_and_passages(self):
        desk = made_desk("tickets t", "passages s", *["ticket t 1 1 1 1"] * 8, *["passage s 0 1 1"] * 10)
        self.assert_fails_full("tickets", 8, desk, "ticket t 1 1 1 1")
        self.assert_fails_full("passages", 10, desk, "passage s 0 1 1")
        self.assertEqual(InvalidTickets, outcome(desk.do, "ticket t 0 1 1 1")[0])
        self.assertEqual(9, len(outcome(desk.do, "ticket t 0 1 1 1")[1][0]))
        self.assertEqual(InvalidPassages, outcome(desk.do, "passage s 1 1 1")[0])
        self.assert_answers(desk, ("strike t 7", "-"), ("ticket t 2 1 1 1", "-"))

    def test_deeds(self):
        desk = made_desk("tickets t", *["ticket t 1 1 1 1", "strike t 0"] * 99, "tickets u")
        self.assertEqual(200, len(desk))
        for line in ("tickets v", "drop u", "ticket t 1 1 1 1", "copy v t"):
            self.assert_fails_full("deeds", 200, desk, line)
        self.assertEqual(InvalidTickets, outcome(desk.do, "ticket t 0 1 1 1")[0])
        self.assertEqual((UnknownName, ["x"], [str]), outcome(desk.do, "drop x"))
        self.assert_answers(desk, ("undo", "tickets u"), ("tickets v", "-"))
        self.assertEqual(200, len(desk))
        self.assertEqual(desk.lines(), Desk.again(desk.lines()).lines())
        self.assert_answers(desk, ("undo", "tickets v"), ("redo", "tickets v"))
        self.assertEqual((TooMany, ["deeds", 200], [str, int]), outcome(desk.do, "drop v"))

    def test_too_many_of_a_claim_is_gone(self):
        full = wide(*ROWS_4001, promises=(("ends", 0, 0),))
        desk = made_desk("plan p " + plan_text(full))
        self.assert_answers(desk, ("claim k keeps p", "k gone"), ("claim b breaks p", "b gone"), ("claim s same p p", "s true"))
        self.assertEqual(("keeps", full), desk.claim_of("k"))
        for line in ("can p", "least p", "late p 0", "sign p 5 least"):
            self.assert_fails_full("standings", 4000, desk, line)
        self.assertEqual((InvalidPaper, [[1] + [0] * 5], [list]), outcome(desk.attach, "k", [1] + [0] * 5))
        self.assert_answers(desk, ("budget p 0", "b false, k true"), ("budget p 16", "b gone, k gone"), ("drop p", "s gone"))
        self.assertIsNone(desk.claim_of("k"))


class States(Told):
    def test_gone_and_back(self):
        desk = made_desk("plan p " + TEXT, "claim k keeps p", "claim b breaks p", "claim c safe p 1 now", "claim d safe p 0 least 3")
        self.assert_answers(
            desk, ("state k", "false"), ("state b", "true"), ("states", "b true, c true, d true, k false"), ("drop p", "b gone, c gone, d gone, k gone"),
            ("tickets p", "-"), ("states", "b gone, c gone, d gone, k gone"), ("undo", "tickets p"), ("undo", "drop p"), ("states", "b true, c true, d true, k false"),
            ("remedy p drop 1", "b false, c gone, k true"), ("state c", "gone"), ("undo", "remedy p drop 1"), ("state c", "true"),
            ("redo", "remedy p drop 1"), ("states", "b false, c gone, d true, k true"), ("forget c", "-"), ("states", "b false, d true, k true"),
        )
        self.assertIsNone(made_desk("plan p " + TEXT, "claim c safe p 1 now", "remedy p drop 1").claim_of("c"))

    def test_what_a_deed_answers_is_sorted(self):
        desk = made_desk("plan p " + TEXT, *[f"claim {label} {word} p" for label, word in (("z", "keeps"), ("a", "breaks"), ("m", "keeps"), ("b2", "breaks"))])
        self.assert_answers(desk, ("budget p 3", "a false, b2 false, m true, z true"), ("budget p 2", "-"), ("budget p 4", "a true, b2 true, m false, z false"))
        self.assert_answers(desk, ("claim q keeps p", "q false"), ("forget a", "-"), ("copy x p", "-"), ("drop p", "b2 gone, m gone, q gone, z gone"), ("copy p x", "b2 true, m false, q false, z false"))

    def test_a_noted_label_counts_as_changed(self):
        desk = made_desk("plan p " + TEXT)
        self.assert_answers(desk, ("states", "-"), ("claim k keeps p", "k false"), ("forget k", "-"), ("claim k keeps p", "k false"), ("claimed k", "keeps p"))
        for told in ("safe p 1 least 0", "safe p 1 now", "breaks p", "alike p p", "parted p p", "misleads p 0 least 60"):
            desk.do("forget k")
            desk.do("claim k " + told)
            self.assert_answers(desk, ("claimed k", told))

    def test_of_all_lines_what_becomes_of_them(self):
        desk = made_desk(
            "plan p " + TEXT, "copy q p", "way w p 0 00:00 ride 0 1 ride 1 2 there", "tickets t", "ticket t 300 60 1,2 1", "passages s", "passage s 0 20 1",
            "claim a surely p w 99", "claim b alike p q", "claim c same p q", "claim d within t s 300", "claim e misleads p 1 least 60", "claim f perhaps q w 1",
        )
        self.assert_answers(
            desk, ("states", "a false, b true, c true, d true, e true, f true"), ("budget q 3", "b gone"), ("budget q 9", "b true"),
            ("promise q ends 1 3", "b gone"), ("undo", "promise q ends 1 3"), ("passage s 0 20 2", "d false"), ("strike t 0", "d gone"),
            ("ticket t 100 60 1,2 2", "d true"), ("told q 1 00:13", "b false, c false"), ("remedy p wait 0 9", "a true"), ("budget p 0", "b gone, e false"),
        )


class TakenBack(Told):
    def test_undo_and_redo(self):
        lines = ["plan p " + TEXT, "claim k keeps p", "budget p 3", "hear p 2", "tickets t", "drop t"]
        desk, seen = Desk(), []
        for line in lines:
            seen.append(all_of(desk))
            desk.do(line)
        seen.append(all_of(desk))
        for _ in range(3):
            for at in reversed(range(len(lines))):
                self.assert_answers(desk, ("undo", lines[at]))
                self.assertEqual(seen[at], all_of(desk))
            self.assertEqual((NothingToUndo, [], []), outcome(desk.do, "undo"))
            for at, line in enumerate(lines):
                self.assert_answers(desk, ("redo", line))
                self.assertEqual(seen[at + 1], all_of(desk))
            self.assertEqual((NothingToRedo, [], []), outcome(desk.do, "redo"))

    def test_a_deed_between(self):
        desk = made_desk("tickets t", "tickets u", "undo")
        self.assert_answers(desk, ("names", "t"), ("sort t", "tickets"), ("redo", "tickets u"), ("undo", "tickets u"))
        # What fails is no deed, and no question is one.
        self.assertEqual(NameTaken, outcome(desk.do, "tickets t")[0])
        self.assert_answers(desk, ("redo", "tickets u"), ("undo", "tickets u"), ("passages s", "-"))
        self.assertEqual((NothingToRedo, [], []), outcome(desk.do, "redo"))
        self.assertEqual(["tickets t", "passages s"], desk.lines())
        self.assert_answers(desk, ("undo", "passages s"), ("undo", "tickets t"), ("redo", "tickets t"), ("redo", "passages s"))

    def test_do_all(self):
        desk = made_desk("tickets t")
        self.assertEqual([], desk.do_all())
        self.assertEqual(["-", "t u", "tickets u", "t"], desk.do_all("tickets u", "names", "undo", "names"))
        before = all_of(desk)
        for lines, position in ((("tickets u", "tickets u"), 1), (("what",), 0), (("redo", "undo", "undo", "undo"), 3), (("drop t", "drop t", "what"), 1)):
            for call in (desk.do_all, desk.attempt):
                with self.assertRaises(CommandFailed) as held:
                    call(*lines)
                self.assertEqual(position, held.exception.position)
                self.assertIsNotNone(held.exception.__cause__)
                self.assertEqual(before, all_of(desk))
        # What was taken back can still be done again.
        self.assert_answers(desk, ("redo", "tickets u"))

    def test_attempt(self):
        desk = made_desk("plan p " + TEXT, "claim k keeps p", "tickets t", "undo")
        before = all_of(desk)
        self.assertEqual(["k true", "true", "budget p 3", "-"], desk.attempt("budget p 3", "state k", "undo", "passages s"))
        self.assertEqual(before, all_of(desk))
        self.assert_answers(desk, ("redo", "tickets t"))
        self.assertEqual([], desk.attempt())

    def test_copy(self):
        desk = made_desk("plan p " + TEXT, "claim k keeps p", "tickets t", "undo")
        desk.attach("k", [4, 0])
        other = desk.copy()
        self.assertIsInstance(other, Desk)
        self.assertIsNot(other, desk)
        self.assertEqual(all_of(desk), all_of(other))
        self.assertIs(other.fits("k"), True)
        before = all_of(desk)
        self.assert_answers(other, ("redo", "tickets t"), ("drop p", "k gone"), ("undo", "drop p"), ("forget k", "-"))
        self.assertEqual(before, all_of(desk))
        once = all_of(other)
        desk.do_all("budget p 3", "passages s")
        self.assertEqual(once, all_of(other))
        self.assertIs(desk.fits("k"), False)

    def test_again(self):
        lines = ["plan p " + TEXT, "claim k keeps p", "budget p 3", "hear p 2", "tickets t", "drop t"]
        desk = made_desk(*lines)
        for some in (lines, tuple(lines)):
            self.assertEqual(all_of(desk), all_of(Desk.again(some)))
        self.assertEqual(all_of(Desk()), all_of(Desk.again([])))
        self.assertEqual(lines, desk.lines())
        self.assertIsNot(desk.lines(), desk.lines())
        for value in OTHERS:
            if not isinstance(value, (list, tuple)):
                self.assertEqual((InvalidDeeds, [None]), outcome(Desk.again, value)[:2])
            self.assertEqual((InvalidDeeds, [1]), outcome(Desk.again, ["tickets t", value])[:2])
        for line in ("undo", "redo", "names", "state k", "what", "tickets T", "price t s"):
            self.assertEqual((InvalidDeeds, [0]), outcome(Desk.again, [line, "undo"])[:2])
        with self.assertRaises(CommandFailed) as held:
            Desk.again(["tickets t", "drop t", "drop t", "drop t"])
        self.assertEqual(2, held.exception.position)
        self.assertEqual((UnknownName, ["t"], [str]), told_by(held.exception.__cause__))
        self.assertIs(type(Desk.again(["tickets t"])), Desk)

    def test_names_labels_and_objects(self):
        desk = made_desk("tickets t", "tickets a", "plan p " + TEXT, "claim z keeps p", "claim b breaks p")
        self.assert_same(["a", "p", "t"], desk.names)
        self.assert_same(["b", "z"], desk.labels)
        self.assertIsNot(desk.names, desk.names)
        self.assertIsNot(desk.labels, desk.labels)
        desk.names.append("x")
        self.assertEqual(5, len(desk))
        for name, told in (("t", True), ("a", True), ("z", False), ("x", False), ("", False)):
            self.assertIs(name in desk, told)
        for value in OTHERS:
            if not isinstance(value, str) or value != "a":
                self.assertIs(value in desk, False)
                with self.assertRaises(UnknownName) as held:
                    desk[value]
                self.assertIs(held.exception.value, value)
            for call in (desk.claim_of, desk.fits, lambda label: desk.attach(label, None)):
                with self.assertRaises(UnknownLabel) as held:
                    call(value)
                self.assertIs(held.exception.value, value)
        self.assertEqual(0, len(Desk()))
        self.assertEqual(([], []), (Desk().names, Desk().labels))
        self.assertEqual("-", Desk().do(command="names"))
        self.assertEqual("-", Desk()(command="names"))
        self.assertEqual("-", Desk().do(command="states"))
        self.assertEqual([], Desk.again(lines=[]).lines())
        with self.assertRaises(TypeError):
            list(desk)


class Papers(Told):
    def test_attached_and_fits(self):
        desk = made_desk("plan p " + TEXT, "claim k keeps p", "claim b breaks p")
        self.assertIs(desk.fits("k"), False)
        before = all_of(desk)
        for label in ("k", "b"):
            self.assertIsNone(desk.attach(label, [4, 0]))
            self.assertIs(desk.fits(label), True)
        # It is no deed.
        self.assertEqual(before[:-1], all_of(desk)[:-1])
        for value in ([5, 0], [[]], None, [4], "x", object()):
            with self.assertRaises(InvalidPaper) as held:
                desk.attach("k", value)
            self.assertIs(held.exception.value, value)
            self.assertIs(desk.fits("k"), True)
        # Another budget: the course is still one, or not; it was kept for the contrary of the one, and for the other one.
        for budget, told in ((4, True), (3, False), (9, True), (20, True), (0, False)):
            desk.do(f"budget p {budget}")
            self.assertEqual([told, told], [desk.fits(label) for label in ("k", "b")])
        desk.do("budget p 3")
        desk.attach("k", paper_of(("keeps", desk["p"])))
        self.assertEqual([True, False], [desk.fits(label) for label in ("k", "b")])
        desk.do("budget p 2")
        self.assertEqual([is_paper_of(("keeps", desk["p"]), paper_of(("keeps", plan_of(TEXT.replace("budget 9", "budget 3"))))), False], [desk.fits("k"), desk.fits("b")])
        desk.do("budget p 9")
        self.assertEqual([False, True], [desk.fits(label) for label in ("k", "b")])

    def test_it_stays_with_the_label(self):
        desk = made_desk("plan p " + TEXT, "claim k keeps p")
        desk.attach("k", [4, 0])
        desk.do("undo")
        self.assertEqual(UnknownLabel, outcome(desk.fits, "k")[0])
        desk.do("redo")
        self.assertIs(desk.fits("k"), True)
        desk.do_all("forget k", "claim k keeps p")
        self.assertIs(desk.fits("k"), True)
        # Other words, though of the same line, or the same ones on another name, are not those with which it was kept.
        desk.do_all("forget k", "claim k breaks p")
        self.assertIs(desk.fits("k"), False)
        desk.do_all("forget k", "copy q p", "claim k keeps q")
        self.assertIs(desk.fits("k"), False)
        desk.do_all("forget k", "drop p", "copy p q", "claim k keeps p")
        self.assertIs(desk.fits("k"), True)
        # Gone it does not fit; back it does.
        desk.do("drop p")
        self.assertIs(desk.fits("k"), False)
        self.assertEqual((InvalidPaper, [[4, 0]]), outcome(desk.attach, "k", [4, 0])[:2])
        desk.do("undo")
        self.assertIs(desk.fits("k"), True)
        desk.attempt("drop p")
        self.assertIs(desk.fits("k"), True)

    def test_papers_are_copied(self):
        desk = made_desk("plan p " + TEXT, "claim k keeps p", "budget p 3", "claim s same p p")
        paper = paper_of(("keeps", desk["p"]))
        desk.attach("k", paper)
        paper[1].append(None)
        self.assertIs(desk.fits("k"), True)
        stairs = paper_of(("same", desk["p"], desk["p"]))
        desk.attach(label="s", paper=stairs)
        stairs[0][2].clear()
        self.assertIs(desk.fits(label="s"), True)

    def test_of_each_line_and_both_words(self):
        desk = made_desk(
            "plan p " + TEXT, "copy q p", "promise q ends 1 3", "promise p ends 1 2", "way w p 0 00:00 ride 0 1 ride 1 2 there", "tickets t", "ticket t 300 60 1,2 1",
            "passages s", "passage s 0 20 1", "passage s 0 20 2",
        )
        for told in (
            "keeps p", "breaks p", "safe p 1 least 0", "safe p 1 least 60", "misleads p 1 now", "surely p w 99", "surely p w 9999", "perhaps p w 0",
            "alike p q", "alike p p", "unlike p q", "same p q", "parted p q", "within t s 600", "within t s 599", "above t s 599",
        ):
            desk.do("claim k " + told)
            claim = desk.claim_of("k")
            one, other = next(pair for pair in (
                ("keeps", "breaks"), ("safe", "misleads"), ("surely", "perhaps"), ("alike", "unlike"), ("same", "parted"), ("within", "above")) if claim[0] in pair)
            right = (one if is_true((one,) + claim[1:]) else other,) + claim[1:]
            paper = paper_of(right)
            self.assertEqual("true" if right == claim else "false", desk.do("state k"))
            self.assertIs(desk.fits("k"), False)
            desk.attach("k", paper)
            self.assertIs(desk.fits("k"), True)
            self.assertEqual(InvalidPaper, outcome(desk.attach, "k", [None])[0])
            self.assertIs(desk.fits("k"), True)
            desk.do("forget k")

    def test_a_paper_for_both_sides_in_turn(self):
        desk = made_desk("plan p " + TEXT, "claim k keeps p")
        desk.attach("k", [4, 0])
        desk.do("budget p 3")
        self.assertEqual(InvalidPaper, outcome(desk.attach, "k", [4, 0])[0])
        desk.attach("k", paper_of(("keeps", desk["p"])))
        self.assertIs(desk.fits("k"), True)
        desk.do("budget p 9")
        self.assertIs(desk.fits("k"), False)
        self.assertEqual(InvalidPaper, outcome(desk.attach, "k", paper_of(("keeps", plan_of(TEXT.replace("budget 9", "budget 3")))))[0])

    def test_where_a_judge_raises_too_many(self):
        small = "\n".join(ROWS)
        desk = made_desk("plan p " + plan_text(wide(*ROWS_4001, promises=(("ends", 0, 0),))), "claim k misleads p 5 least 60")
        self.assertEqual("gone", desk.do("state k"))
        self.assertIs(desk.fits("k"), False)
        self.assertEqual(InvalidPaper, outcome(desk.attach, "k", [1, 0, 0, 0, 0, 0])[0])
        self.assertNotEqual(small, desk.do("show p"))


class Trials(Told):
    def test_behind_the_block_all_is_as_it_was(self):
        desk = made_desk("plan p " + TEXT, "claim k keeps p", "tickets t", "undo")
        desk.attach("k", [4, 0])
        before = all_of(desk)
        with Trial(desk) as held:
            self.assertIs(held, desk)
            desk.do_all("budget p 3", "forget k", "passages s", "claim k breaks p")
            desk.attach("k", paper_of(("keeps", desk["p"])))
            self.assertIs(desk.fits("k"), True)
        self.assertEqual(before, all_of(desk))
        self.assertIs(desk.fits("k"), True)
        self.assert_answers(desk, ("redo", "tickets t"))

    def test_errors_leave_a_block(self):
        desk = made_desk("tickets t")
        before = all_of(desk)
        for error in (KeyError("x"), InvalidCommand("x"), SystemExit(3)):
            with self.assertRaises(type(error)) as held:
                with Trial(desk):
                    desk.do("drop t")
                    raise error
            self.assertIs(error, held.exception)
            self.assertEqual(before, all_of(desk))
        with self.assertRaises(NameTaken):
            with Trial(desk):
                desk.do("passages s")
                desk.do("tickets t")
        self.assertEqual(before, all_of(desk))

    def test_one_block_behind_another(self):
        desk = Desk()
        trial = Trial(desk)
        desk.do("tickets t")
        with trial:
            desk.do("drop t")
        self.assertEqual(["t"], desk.names)
        desk.do("passages s")
        with trial as held:
            self.assertIs(held, desk)
            held.do("drop s")
        self.assertEqual(["s", "t"], desk.names)
        with Trial(desk):
            with Trial(desk):
                desk.do("drop s")
            self.assertEqual(["s", "t"], desk.names)
            desk.do("drop t")
        self.assertEqual(["s", "t"], desk.names)

    def test_undo_within_a_block(self):
        desk = made_desk("tickets t", "tickets u")
        with Trial(desk):
            desk.do_all("undo", "undo", "passages s")
            self.assertEqual(["passages s"], desk.lines())
        self.assertEqual(["tickets t", "tickets u"], desk.lines())

    def test_tried(self):
        desk = made_desk("plan p " + TEXT, "claim k keeps p")
        before = all_of(desk)
        self.assertEqual("k true", tried(desk, lambda own: own.do("budget p 3")))
        self.assertEqual(before, all_of(desk))
        self.assertIs(tried(desk, lambda own: own), desk)
        self.assertIsNone(tried(desk=desk, action=lambda own: None))
        with self.assertRaises(NameTaken):
            tried(desk, lambda own: (own.do("drop p"), own.do("tickets p"), own.do("tickets p")))
        self.assertEqual(before, all_of(desk))
        self.assertEqual([3, 2], [tried(desk, lambda own: (own.do("tickets t"), len(own))[1]), len(desk)])


class Lives(Told):
    """Long lives, deed by deed."""

    def commands(self, rng, own):
        """A command, as it happens to be; mostly one that can be done."""
        plans = [name for name, (sort, _) in own.kept.items() if sort == "plan"]
        names, labels = list(own.kept) + ["x"], list(own.noted) + ["k9"]

        def of(sort):
            some = [name for name, row in own.kept.items() if row[0] == sort]
            return rng.choice(some) if some and rng.random() < 0.95 else rng.choice(names)

        def new():
            return rng.choice(["a", "b", "c", "d", "e1", "f", "g", "h"])

        def count(*most):
            return " ".join(str(rng.randint(0, own)) for own in most)

        plan = of("plan")
        claim = rng.choice([
            f"keeps {plan}", f"breaks {plan}", f"safe {plan} {count(4)} now", f"safe {plan} {count(4)} least {count(9)}", f"misleads {plan} {count(4)} least {count(9)}",
            f"surely {plan} {of('way')} {count(60)}", f"perhaps {plan} {of('way')} {count(60)}", f"alike {plan} {of('plan')}", f"unlike {plan} {of('plan')}",
            f"same {plan} {of('plan')}", f"parted {plan} {of('plan')}", f"within {of('tickets')} {of('passages')} {count(60)}", f"above {of('tickets')} {of('passages')} {count(60)}",
        ])
        text, way = self.texts(rng, own, plans)
        deeds = [
            f"plan {new()} {text}", f"way {new()} {plan} {way}", f"tickets {new()}", f"passages {new()}", f"ticket {of('tickets')} {count(30, 30)} {rng.choice(['1', '2', '1,2', '2,1'])} {count(2)}",
            f"passage {of('passages')} {count(20, 40)} {rng.choice(['1', '2', '1,2'])}", f"strike {of(rng.choice(['tickets', 'passages']))} {count(2)}", f"budget {plan} {count(4)}",
            f"bound {plan} {count(3, 2, 3)}", f"spares {plan} -", f"spares {plan} {count(3, 2, 3)}", f"told {plan} {count(3)} 00:{rng.randint(10, 40)}", f"meet {plan} {count(3, 1, 3, 1, 5)} {rng.choice(['blind', 'news'])}",
            f"wait {plan} {count(2, 6)} {rng.choice(['blind', 'news'])}", f"part {plan} {count(2)}", f"promise {plan} meets {count(2)}", f"promise {plan} leaves {count(3, 1, 3)}",
            f"promise {plan} ends {count(3, 3)}", f"promise {plan} long {count(2, 40)}", f"release {plan} {count(3)}", f"hear {plan} {count(2)}", f"hear {plan} 0,{count(2)}",
            f"remedy {plan} wait {count(2, 6)}", f"remedy {plan} free {count(2)}", f"remedy {plan} spare {count(3, 3)}", f"remedy {plan} drop {count(3)}", f"remedy {plan} cut {count(3, 1)}",
            f"copy {new()} {rng.choice(names)}", f"drop {rng.choice(names)}", f"claim {rng.choice(['k1', 'k2', 'k3', 'k4'])} {claim}", f"claim {rng.choice(['k1', 'k2', 'k3', 'k4'])} {claim}",
            f"forget {rng.choice(labels)}",
        ]
        questions = [
            "undo", "undo", "redo", "states", "names", f"state {rng.choice(labels)}", f"claimed {rng.choice(labels)}", f"sort {rng.choice(names)}", f"show {rng.choice(names)}",
            f"equal {rng.choice(names)} {rng.choice(names)}", f"heard {plan}", f"next {plan}", f"moment {plan}", f"sign {plan} {count(5)} {rng.choice(['least', 'now'])}", f"can {plan}",
            f"least {plan}", f"late {plan} {count(5)}", f"price {of('tickets')} {of('passages')}",
        ]
        return rng.choice(deeds) if rng.random() < 0.65 else rng.choice(questions)

    def texts(self, rng, own, plans):
        number = rng.randint(0, 60)
        plan = rng.choice([PLAN, overview(), made(number, rides=5, bound=2, budget=3), case_e((1, 1, 2)), CASE_D])
        way = "0 00:00 there"
        if plans:
            of_it = own.kept[rng.choice(plans)][1]
            way = way_text(of_it, made_way(number, of_it, 4))
        return plan_text(plan), way

    def assert_life(self, number, many):
        rng = random.Random(number)
        desk, own = Desk(), Reckoning()
        for line in ["plan a " + TEXT, "tickets b", "passages c", "claim k1 keeps a"]:
            self.assertEqual(own.do(line), desk.do(line))
        done = 0
        for _ in range(many):
            line = self.commands(rng, own)
            self.assertTrue(is_line(line), line)
            expected, found = outcome(own.do, line), outcome(desk.do, line)
            self.assertEqual(expected, found, line)
            done += isinstance(found, str)
            self.assertEqual(sorted(own.kept), desk.names)
            self.assertEqual(sorted(own.noted), desk.labels)
            self.assertEqual([row for row, _ in own.done], desk.lines())
            self.assertEqual(len(own.done), len(desk))
            self.assertEqual(own.ask_states(), desk.do("states"))
            for name, (sort, thing) in own.kept.items():
                self.assert_same(list(thing) if sort in ("tickets", "passages") else thing, desk[name])
            for label in own.noted:
                claim = own.claim(label)
                told = desk.claim_of(label)
                self.assertEqual(claim if told is not None else None, told)
                self.assertTrue(told is not None or own.state(label) == "gone")
        again = Desk.again(desk.lines())
        self.assertEqual(all_of(desk), all_of(again))
        return done

    def test_some(self):
        done = sum(self.assert_life(number, 70) for number in range(60))
        self.assertGreater(done, 1500)


if __name__ == "__main__":
    unittest.main()
