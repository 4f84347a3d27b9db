"""[32]: texts that show a net and a split, and lines that are answered."""

import random
import unittest
from fractions import Fraction

from neverjammed.control import Control
from neverjammed.desk import Desk
from neverjammed.errors import Jammed, JamError, NoCommand, NoFlow, NoOrder, NoText, Wrong
from neverjammed.texts import show_net, show_split
from tests.helper import (
    Case, H, I, NETS, ODD_VALUES, Z, cases, fits, fraction, loads, number, some_split, tight_cases,
)
from tests.plain import plainly_joined, plainly_thinned

TEXT = "rooms 1 1 1\nflow 1\nway 1 0 0\nway 0 1 0\nway 0 0 1\nflow 1\nway 1 0 0\nway 0 1 0\nshares 1 0 0\nshares 0 1"
LINES = TEXT.split("\n")
LEFT, RIGHT, SPARE = (I, Z, Z), (Z, I, Z), (Z, Z, I)
NET = ((I, I, I), ((I, (LEFT, RIGHT, SPARE)), (I, (LEFT, RIGHT))))
HERE, ASIDE, THERE = ((I, Z, Z), (Z, I)), ((Z, Z, I), (Z, I)), ((Z, Z, I), (I, Z))


def refused(function, *arguments):
    """The error that a call raises, None if it raises none."""
    try:
        function(*arguments)
    except JamError as error:
        return error
    return None


def shown(net, split):
    """The text of a net and a split of it."""
    return "\n".join([show_net(net)] + ([show_split(split)] if split else []))


def words_of(split):
    """A SPLIT as it stands in a line."""
    return " ; ".join(row.removeprefix("shares ") for row in show_split(split).split("\n")) if split else ""


class DeskTest(Case):

    def bad(self, text, line):
        error = refused(Desk, text)
        self.assertEqual((type(error), getattr(error, "line", None)), (NoText, line), text)

    def reads(self, text, net, split):
        self.assertEqual(Desk(text).control(), Control(net, split), text)

    def answers(self, desk, line, told):
        """The answer to a line, whatever blanks are in it."""
        twin = desk.control()
        result = desk.execute(line)
        self.assertEqual(result, told, line)
        self.assertIs(type(result), list)
        self.assertTrue(all(type(row) is str for row in result))
        return twin

    def refuses(self, desk, line):
        """The line is no command, and nothing has changed."""
        before = desk.control()
        self.assertIs(type(refused(desk.execute, line)), NoCommand, line)
        self.assertEqual(desk.control(), before)

    def test_texts(self):
        self.reads(TEXT, NET, HERE)
        self.reads("\n\n" + TEXT + "\n\n", NET, HERE)
        self.reads(TEXT.replace("\n", "\n\n   \n# a remark of shares 1\n"), NET, HERE)
        self.reads(TEXT.replace(" ", "   ").replace("\n", "  # shares 1 way 1\n   "), NET, HERE)
        self.reads(TEXT + "#", NET, HERE)
        self.reads("rooms 1#\nflow 1/2\nway 1/2 #\nshares 1/2", ((I,), ((H, ((H,),)),)), ((H,),))
        self.reads("rooms", ((), ()), ())
        self.reads(" \n#\nrooms 1/2 0", ((H, Z), ()), ())
        self.reads("rooms\nflow 1\nway\nway\nshares 0 1", ((), ((I, ((), ())),)), ((Z, I),))
        for net, splits in cases(20, True):
            for split in splits:
                self.reads(shown(net, split), net, split)

    def test_a_bad_line_at_each_place(self):
        bad = [
            "room 1", "rooms 1 1 1", "way 1 0", "way 1 0 0 0", "way", "flow", "flow 1 1", "flow x", "way 0 0 -1", "way 0 0 2/2",
            "way 0 0 01", "way 0 0 1234567890", "shares", "shares 2", "shares 1 1 0", "shares 0 2", "share 1 0", "x", ";", "1",
            "Rooms 1", "way 0 0 1.5", "way 0 0 1/0", "order 1 0 0 ; 1 0", "shares 1 0 0 ; 0 1", "way 0 0 1/", "shares 1/1 0 0",
        ]
        for at in range(len(LINES) + 1):
            for line in bad:
                lines = LINES[:at] + [line] + LINES[at:]
                # Rooms ahead of the rooms are good, but for those behind them.
                first = 1 if at == 0 and line == "rooms 1 1 1" else at
                self.bad("\n".join(lines), first)
                self.bad("\n".join(lines + ["nothing", "rooms"]), first)
                # Lines that are skipped are counted.
                self.bad("\n\n".join(lines), 2 * first)
                self.bad(" # \n" + "\n".join(lines), first + 1)

    def test_lines_that_may_not_stand_there(self):
        for at in range(1, len(LINES)):
            # Whatever stands ahead of the rooms is bad, and rooms anywhere else.
            self.bad("\n".join(LINES[at:]), 0)
            self.bad("\n".join(LINES[:at] + ["rooms"] + LINES[at:]), at)
        for line in ["way 1 0 0", "flow 1", "rooms 1"]:
            self.bad("\n".join(LINES[:9] + [line] + LINES[9:]), 9)
            self.bad("\n".join(LINES + [line]), 10)
        self.bad("\n".join(LINES + ["shares 1 0"]), 10)
        self.bad("rooms 1\nshares", 1)
        self.bad("rooms 1\nflow 1\nflow 1\nway 1\nshares 1", 2)
        self.bad("shares 1", 0)

    def test_a_shares_line_behind_a_flow_without_ways(self):
        self.bad("rooms 1\nflow 1\nshares 1", 2)
        self.bad("rooms 1\nflow 1\n\n#\nshares 1\nshares x", 4)
        self.bad("rooms 1\nflow 1\nway 1\nflow 1\nshares 1\nshares 1", 4)
        self.bad("rooms 1\nflow 1\nshares", 2)
        self.bad("rooms 1\nflow x\nshares 1", 1)
        self.bad("rooms 1\nflow 1\nway 1\nshares 1\nflow 1\nway 1\nshares 1", 4)

    def test_something_lacks(self):
        for at in [0, *range(2, len(LINES))]:
            text = "\n".join(LINES[:at])
            for behind in ["", "\n", "\n\n  # way 1", " #"]:
                whole = text + behind
                self.bad(whole, whole.count("\n") + 1)
        self.bad("", 1)
        self.bad("\n", 2)
        self.bad("rooms 1\nflow 1", 2)
        self.bad("rooms 1\nflow 0\nway 0", 3)

    def test_a_split_that_is_not_let(self):
        for shares, link in [("shares 1 0 0\nshares 1 0", 0), ("shares 0 1 0\nshares 0 1", 1), ("shares 1/2 1/2 0\nshares 1/3 2/3", 1)]:
            error = refused(Desk, "\n".join(LINES[:8]) + "\n" + shares)
            self.assertEqual((type(error), error.link), (Jammed, link))
            # What is bad comes first.
            self.bad("\n".join(LINES[:8]) + "\n" + shares + "\nshares 1", 10)
        seen = 0
        for net, splits in cases(60):
            for split in splits:
                over = [link for link, load in enumerate(loads(net, split)) if load > number(net[0][link])]
                error = refused(Desk, shown(net, split))
                self.assertEqual(type(error), Jammed if over else type(None))
                if over:
                    self.assertEqual(error.link, over[0])
                seen += len(over) > 1
        self.assertGreater(seen, 5)

    def test_what_is_handed_in(self):
        for thing in ODD_VALUES + (Desk(TEXT), Control(NET, HERE), [TEXT], (TEXT,)):
            error = refused(Desk, thing)
            if isinstance(thing, str):
                self.assertIs(type(error), type(None) if thing == "rooms 1" else NoText)
            else:
                self.assertEqual((type(error), error.place), (Wrong, 0))
            error = refused(Desk(TEXT).execute, thing)
            if isinstance(thing, str) and "\n" not in thing:
                self.assertIs(type(error), NoCommand)
            else:
                self.assertEqual((type(error), error.place), (Wrong, 0))
        for line in ["worst\n", "\nworst", "wor\nst", "order 0 0 1\n; 0 1", "\n"]:
            error = refused(Desk(TEXT).execute, line)
            self.assertEqual((type(error), error.place), (Wrong, 0))

    def test_orders_by_hand(self):
        desk = Desk(TEXT)
        self.answers(desk, "order 0 0 1 ; 1 0", ["refused Jammed 0"])
        self.answers(desk, "order 0 0 1 ; 0 1", ["1"])
        self.answers(desk, "  hear   0 0  1 ;   1 0 ", ["0"])
        self.answers(desk, "sure", ["not sure"])
        self.answers(desk, "lock", ["not sure"])
        self.answers(desk, "joined 0 0 1 ; 0 1", ["not sure"])
        self.answers(desk, "joined 1 0 0 ; 1 0", ["not sure"])
        self.answers(desk, "pending 0", ["0 1 0 0", "1 0 0 1"])
        self.answers(desk, "worst", ["1 1 1"])
        self.answers(desk, "heard 0 1", ["done"])
        self.answers(desk, "heard 1 2", ["refused NoOrder"])
        self.answers(desk, "heard 2 0", ["refused NoFlow"])
        self.answers(desk, "heard 2 9", ["refused NoFlow"])
        self.answers(desk, "pending 2", ["refused NoFlow"])
        self.answers(desk, "pending 999999999", ["refused NoFlow"])
        self.answers(desk, "heard 0 999999999", ["refused NoOrder"])
        self.answers(desk, "pending 1", ["0 0 1", "1 0 1"])
        self.answers(desk, "worst", ["0 1 1"])
        self.answers(desk, "sure", ["shares 0 0 1", "shares 0 1"])
        self.answers(desk, "lock", [""])
        self.answers(desk, "joined 0 1 0 ; 1 0", ["yes"])
        self.answers(desk, "joined 1 0 0 ; 1 0", ["not let"])
        self.answers(desk, "hear 0 1 0 ; 0 1", ["no"])
        self.answers(desk, "hear 0 0 1 ; 1 0", [""])
        self.answers(desk, "order 1/2 0 1/2 ; 1/3 2/3", ["2"])
        self.answers(desk, "pending 0", ["1 0 0 1", "2 1/2 0 1/2"])
        self.answers(desk, "worst", ["5/6 1 1"])
        self.answers(desk, "net", LINES[:8])

    def test_locks_and_joined(self):
        desk = Desk("rooms 1 1\nflow 1\nway 1 0\nway 0 1\nflow 1\nway 1 0\nway 0 1\nshares 1 0\nshares 0 1")
        self.answers(desk, "lock", ["0 1"])
        self.answers(desk, "joined 0 1 ; 1 0", ["no"])
        self.answers(desk, "joined 1 0 ; 0 1", ["yes"])
        self.answers(desk, "joined 1 0 ; 1 0", ["not let"])
        self.answers(desk, "hear 0 1 ; 1 0", ["no"])
        self.answers(desk, "hear 1 0 ; 0 1", [""])
        self.answers(desk, "order 1 0 ; 0 1", ["1"])
        self.answers(desk, "sure", ["shares 1 0", "shares 0 1"])

    def test_hear_tells_each_lot(self):
        ways = "flow 1\nway 1\nway 0\n" * 3
        desk = Desk("rooms 3\n" + ways + "flow 2\nway 0\nway 1\n" + "shares 1 0\n" * 3 + "shares 2 0")
        self.answers(desk, "order 0 1 ; 0 1 ; 0 1 ; 2 0", ["1"])
        self.answers(desk, "hear 0 1 ; 0 1 ; 0 1 ; 0 2", ["0 1", "0 2", "1 2"])
        self.answers(desk, "hear 0 1 ; 0 1 ; 0 1 ; 1 1", ["0", "1", "2"])
        self.answers(desk, "hear 1 0 ; 0 1 ; 0 1 ; 2 0", [""])

    def test_lines_that_are_no_commands(self):
        desk = Desk(TEXT)
        for line in [
            "", " ", "order", "order 0 0 1", "order 0 0 1 ;", "order 0 0 1 ; 0 1 ;", "order ; 0 0 1 ; 0 1", "order 0 0 1 ; ; 0 1",
            "order 0 0 1 0 1", "order 0 0 ; 1 0 1", "order 0 0 1; 0 1", "order 0 0 1 ;0 1", "order 0 0 1;0 1", "order 0 1 ; 0 0 1",
            "order 0 0 1 ; 0 1 # x", "order 0 0 1 ; 0 2", "order 0 0 1 ; 1/2 1/3", "order 0 0 1 ; 0 1/1", "order 0 0 1 ; 00 1",
            "order 0 0 1 ; -0 1", "order 0 0 1 ; +0 1", "order 0 0 1 ; 0 1 1", "order 0 0 1 ; x 1", "order 0 0 1 , 0 1", "order ;",
            "order 0 0 1 ; 1/2 2/4", "order 0 0 1 ; 1234567890/1234567891 1/1234567891", "order 0 0 1 : 0 1", "order 1 ; 1",
            "Order 0 0 1 ; 0 1", "orders 0 0 1 ; 0 1", "0 0 1 ; 0 1", "order order 0 0 1 ; 0 1", "order shares 0 0 1 ; shares 0 1",
            "hear", "hear 0 0 1", "hear 0", "joined", "joined 0", "joined 0 0 1 ;", "joined 0 0 1 ; 0 2", "hear 0 0 1 ; 0 1 ; ",
            "heard", "heard 0", "heard 0 0 0", "heard 0 x", "heard x 0", "heard 0 -1", "heard -1 0", "heard +0 0", "heard 00 0",
            "heard 0 00", "heard 0 01", "heard 1234567890 0", "heard 0 1234567890", "heard 0 1/2", "heard 0 0/1", "heard 0 ;",
            "heard 0 ; 0", "heard 0,0", "heard 0 1.0", "pending", "pending 0 0", "pending x", "pending -1", "pending 01", "pending 1/1",
            "pending 0000000000", "pending 1234567890", "worst 0", "worst x", "worst worst", "Worst", "WORST", "worst;", "sure 0",
            "sure sure", "lock 0", "lock lock", "net 0", "net net", "net rooms", "rooms 1", "flow 1", "shares 1 0 0", "way 1 0 0",
            "control", "twin", "order\t0 0 1 ; 0 1", "worst # x", "#", "# worst", ";", "; worst", "worst ;", "sure ; lock", "heard 0 1_0",
        ]:
            self.refuses(desk, line)
        self.assertEqual(desk.control(), Control(NET, HERE))
        self.answers(desk, "order 0 0 1 ; 0 1", ["1"])
        # There is no sure split by now, but what is no command is none.
        for line in ["joined", "joined 0 0 1", "joined 0 0 1 ; 0 2", "sure 0", "lock 0"]:
            self.refuses(desk, line)

    def test_nets_without_flows(self):
        for text, rooms in [("rooms 1 0 3/2", "1 0 3/2"), ("rooms", "")]:
            desk = Desk(text)
            many = len(rooms.split())
            self.answers(desk, "order", ["1"])
            self.answers(desk, "  order  ", ["2"])
            self.answers(desk, "hear", [""])
            self.answers(desk, "joined", ["yes"])
            self.answers(desk, "sure", [""])
            self.answers(desk, "lock", ["1" if many else ""])
            self.answers(desk, "worst", [" ".join(["0"] * many)])
            self.answers(desk, "heard 0 0", ["refused NoFlow"])
            self.answers(desk, "pending 0", ["refused NoFlow"])
            self.answers(desk, "net", [("rooms " + rooms).strip()])
            for line in ["order 0", "order ;", "hear ;", "joined ;", "order ; ;", "joined 0", "sure ;"]:
                self.refuses(desk, line)

    def test_nets_without_links(self):
        desk = Desk("rooms\nflow 1\nway\nway\nshares 1 0")
        self.answers(desk, "worst", [""])
        self.answers(desk, "lock", [""])
        self.answers(desk, "joined 1/3 2/3", ["yes"])
        self.answers(desk, "order 0 1", ["1"])
        self.answers(desk, "hear 1/2 1/2", [""])
        self.answers(desk, "pending 0", ["0 1 0", "1 0 1"])
        self.answers(desk, "net", ["rooms", "flow 1", "way", "way"])
        self.refuses(desk, "order 0 1 ;")

    def test_control_is_a_twin(self):
        desk = Desk(TEXT)
        control = desk.control()
        self.assertEqual(control, Control(NET, HERE))
        control.order(ASIDE)
        control.heard(0, 1)
        self.assertEqual(desk.control(), Control(NET, HERE))
        self.answers(desk, "pending 0", ["0 1 0 0"])
        self.answers(desk, "order 0 0 1 ; 0 1", ["1"])
        self.assertNotEqual(desk.control(), control)
        self.answers(desk, "heard 0 1", ["done"])
        self.assertEqual(desk.control(), control)
        self.assertIsNot(desk.control(), desk.control())
        desk.execute("net").clear()
        self.answers(desk, "net", LINES[:8])

    def told(self, control, net, line, split):
        """The answer that a Control gives to a command, worked out beside the desk."""
        sure = control.sure_split()
        if line.startswith("order"):
            try:
                return [str(control.order(split))]
            except Jammed as error:
                return ["refused Jammed " + str(error.link)]
        if line.startswith("hear "):
            return [" ".join(map(str, lot)) for lot in control.must_hear(split)] or ["no"]
        if sure is None:
            return ["not sure"]
        if line == "sure":
            return show_split(sure).split("\n")
        if line == "lock":
            return [" ".join(map(str, plainly_thinned(net, sure)[-1]))]
        if not fits(net, split):
            return ["not let"]
        return ["yes" if plainly_joined(net, sure, split) else "no"]

    def test_beside_a_control(self):
        chance = random.Random(34)
        seen = {}
        for net, splits in tight_cases(40) + cases(15, True):
            wide = tuple(fraction(number(room) + Fraction(chance.randrange(2), 2)) for room in net[0]), net[1]
            for one in (net, wide):
                desk, control = Desk(shown(one, splits[0])), Control(one, splits[0])
                others = [*splits, some_split(chance, one[1])]
                for _ in range(8):
                    what, split = chance.choice(["order", "hear", "sure", "lock", "joined", "heard"]), chance.choice(others)
                    if what == "heard":
                        flow, last = chance.randrange(6), chance.randrange(5)
                        error = refused(control.heard, flow, last)
                        told = {type(None): "done", NoFlow: "refused NoFlow", NoOrder: "refused NoOrder"}[type(error)]
                        self.answers(desk, f"heard {flow} {last}", [told])
                        continue
                    line = what if what in ("sure", "lock") else (what + " " + words_of(split)).strip()
                    if what == "hear" and not split:
                        line = "hear "
                    told = self.told(control, one, line, split)
                    seen[what, told[0] if len(told[0]) > 3 and what != "sure" else ""] = True
                    self.answers(desk, line.replace(" ", "  "), told)
                    self.assertEqual(desk.control(), control)
                for flow in range(len(one[1])):
                    rows = [f"{k} {show_split((shares,)).removeprefix('shares ')}" for k, shares in control.pending(flow)]
                    self.answers(desk, f"pending {flow}", rows)
                self.answers(desk, "net", show_net(one).split("\n"))
        for case in [("order", "refused Jammed 0"), ("joined", "not let"), ("joined", "not sure"), ("lock", "not sure"), ("order", "")]:
            self.assertIn(case, seen)

    def test_words_as_they_are_shown(self):
        desk = Desk("rooms 999999999/2\nflow 999999999\nway 1/2\nway 0\nshares 999999998 1")
        self.answers(desk, "worst", ["499999999"])
        self.answers(desk, "order 0 999999999", ["1"])
        self.answers(desk, "order 999999997 2", ["2"])
        self.answers(desk, "pending 0", ["0 999999998 1", "1 0 999999999", "2 999999997 2"])
        desk = Desk("rooms 1\nflow 1/999999999\nway 1/999999999\nway 999999999/2\nshares 1/999999999 0")
        self.answers(desk, "worst", ["1/999999998000000001"])
        self.answers(desk, "order 0 1/999999999", ["1"])
        self.answers(desk, "worst", ["1/2"])

    def test_splits_of_the_nets_here(self):
        for net in NETS:
            split = tuple((demand,) + (Z,) * (len(ways) - 1) for demand, ways in net[1])
            if fits(net, split):
                self.reads(shown(net, split), net, split)
                self.answers(Desk(shown(net, split)), "net", show_net(net).split("\n"))


if __name__ == "__main__":
    unittest.main()
