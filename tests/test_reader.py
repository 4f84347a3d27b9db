"""[15]: what is read, and [4]: what [R] accepts, and which error comes first."""

import random
import unittest

from neverjammed.errors import NoText, Wrong
from neverjammed.forms import is_net
from neverjammed.reader import read_net, read_split
from neverjammed.texts import show_net, show_split
from tests.helper import H, I, NETS, NOTHING, NO_FLOWS, NO_LINKS, ODD_VALUES, PAIR, TWO, Z, cases, spoiled

GOOD = ["0", "1", "10", "999999999", "1/2", "3/2", "999999999/2", "1/999999999", "999999998/999999999", "20/3"]
BAD = [
    "-1", "+1", "-0", "+0", "-1/2", "1/-2", "+1/2", "01", "00", "1/02", "01/2", "1000000000", "0000000001",
    "1/1000000000", "1000000000/3", "9999999999", "2/4", "0/2", "0/3", "6/3", "4/2", "1/1", "0/1", "7/1", "1/0", "0/0",
    "1/", "/2", "/", "1//2", "1/2/3", "1.5", "1e3", "1_0", "1,", "x", "1x", "x1", "flow", "way", "rooms", "shares",
    "None", "True", "(1,", "~", "\u00b2", "\u0663", "1\t", "!", "1'", "0x1", "1/x", "x/2", "1/+2",
]


def loosened(text, chance):
    """The same text with blanks, remarks and empty lines put in."""
    lines = []
    for line in text.split("\n"):
        for _ in range(chance.randrange(3)):
            lines.append(chance.choice(["", "   ", "# flow 1", "  #", "#rooms # 1", " # way x"]))
        words = [" " * chance.randrange(1, 4) + word for word in line.split(" ")]
        tail = chance.choice(["", "  ", "#", " # 1", "#1 2 3", "  ## x"])
        lines.append(chance.choice(["", " ", ""]) + "".join(words).lstrip(" ") + tail)
    lines.extend(chance.choice([[], [""], ["", "# end"]]))
    return "\n".join(lines)


class ReaderTest(unittest.TestCase):

    def no_net(self, line, *lines):
        with self.assertRaises(NoText) as caught:
            read_net("\n".join(lines))
        self.assertEqual(caught.exception.line, line, lines)

    def no_split(self, net, line, *lines):
        with self.assertRaises(NoText) as caught:
            read_split(net, "\n".join(lines))
        self.assertEqual(caught.exception.line, line, lines)

    def reads_net(self, net, text):
        self.assertEqual(repr(read_net(text)), repr(net))

    def reads_split(self, net, split, text):
        self.assertEqual(repr(read_split(net, text)), repr(split))

    def test_nets_by_hand(self):
        self.reads_net(PAIR, "rooms 1 3/2\nflow 1\nway 1 0\nway 0 2\nflow 1/2\nway 1 1")
        self.reads_net(NO_LINKS, "rooms\nflow 1\nway\nway\nflow 1/2\nway")
        self.reads_net(NO_FLOWS, "rooms 1 0 3/2")
        self.reads_net(NOTHING, "rooms")

    def test_what_is_shown_is_read(self):
        for net in NETS:
            self.reads_net(net, show_net(net))
        for net, splits in cases(30):
            self.reads_net(net, show_net(net))
            for split in splits:
                self.reads_split(net, split, show_split(split))

    def test_loose_texts(self):
        chance = random.Random(15)
        for net, splits in cases(40):
            text = loosened(show_net(net), chance)
            self.reads_net(net, text)
            for split in splits:
                text = loosened(show_split(split), chance) if split else chance.choice(["", "\n", " \n#", "# shares 1"])
                self.reads_split(net, split, text)

    def test_loose_texts_by_hand(self):
        self.reads_net(PAIR, "  rooms   1 3/2  \n\n#\n flow 1#x\nway 1 0 # 7\n   \nway  0  2\nflow 1/2 \nway 1 1\n\n # end\n")
        self.reads_net(NOTHING, "\n\n  rooms#flow\n\n")
        self.reads_split(PAIR, ((H, H), (H,)), "\n  shares  1/2   1/2 #\n\n#shares 1\nshares 1/2#2\n ")
        self.reads_split(NO_FLOWS, (), "")
        self.reads_split(NO_FLOWS, (), "\n  # shares\n")
        self.reads_split(NOTHING, (), " ")

    def test_numbers_that_are_shown_so(self):
        for word in GOOD:
            num, _, den = word.partition("/")
            part = (int(num), int(den or "1"))
            self.reads_net(((Z, part), ((I, ((I, Z),)),)), f"rooms 0 {word}\nflow 1\nway 1 0")
            self.reads_net(((I,), ((part, ((Z,),)),)), f"rooms 1\nflow {word}\nway 0")
            self.reads_net(((I, I), ((I, ((Z, Z), (Z, part))),)), f"rooms 1 1\nflow 1\nway 0 0\nway 0 {word}")
            self.reads_split(((), ((part, ((), ())),)), ((part, Z),), f"shares {word} 0")

    def test_numbers_that_are_bad(self):
        for word in BAD:
            self.no_net(0, f"rooms {word}")
            self.no_net(1, "", f"rooms 1 {word}", "flow 1", "way 1 1")
            self.no_net(0, f"rooms {word} 1", "flow 1", "way 1 1")
            self.no_net(1, "rooms 1", f"flow {word}", "way 1")
            self.no_net(4, "rooms 1", "flow 1", "way 1", "", f"flow {word}", "way 1")
            self.no_net(2, "rooms 1 1", "flow 1", f"way 1 {word}", "way 1 1")
            self.no_net(3, "rooms 1 1", "flow 1", "way 1 1", f"way {word} 0")
            self.no_split(PAIR, 0, f"shares {word} 1", "shares 1/2")
            self.no_split(PAIR, 0, f"shares 1 {word}", "shares 1/2")
            self.no_split(PAIR, 2, "#", "shares 1 0", f"shares {word}")

    def test_shares_below_nought_that_come_to_the_demand(self):
        self.no_split(PAIR, 0, "shares 2 -1", "shares 1/2")
        self.no_split(PAIR, 0, "shares -1/2 3/2", "shares 1/2")

    def test_lines_of_no_kind(self):
        for line in ["room 1", "Rooms 1", "rooms1", "x", "1", "1 2", "-", "/", "way1", "flows 1", "ways 1", "share 1", "\\", "rooms\t1"]:
            self.no_net(0, line)
            self.no_net(0, line, "rooms 1")
            self.no_net(1, "rooms 1", line)
            self.no_net(2, "rooms 1", "flow 1", line, "way 1")
            self.no_net(3, "rooms 1", "flow 1", "way 1", line, "way 1")
            self.no_net(4, "rooms 1", "flow 1", "way 1", "#", line)
            self.no_split(PAIR, 0, line, "shares 1 0", "shares 1/2")
            self.no_split(PAIR, 2, "shares 1 0", "", line, "shares 1/2")
            self.no_split(PAIR, 2, "shares 1 0", "shares 1/2", line)
            self.no_split(NO_FLOWS, 1, "#", line)

    def test_lines_that_may_not_stand_there(self):
        self.no_net(0, "flow 1", "way")
        self.no_net(0, "way")
        self.no_net(1, "", "way 1", "rooms 1")
        self.no_net(1, "rooms 1", "rooms 1")
        self.no_net(3, "rooms 1", "flow 1", "way 1", "rooms 1")
        self.no_net(2, "rooms 1", "flow 1", "rooms 1", "way 1")
        self.no_net(1, "rooms 1", "way 1", "flow 1", "way 1")
        self.no_net(1, "rooms", "way")
        self.no_net(2, "rooms 1", "flow 1", "flow 1", "way 1")
        self.no_net(5, "rooms 1", "flow 1", "way 1", "flow 1", "", "flow 1", "way 1")
        self.no_net(1, "rooms 1", "shares 1")
        self.no_net(3, "rooms 1", "flow 1", "way 1", "shares 1")
        for line in ["rooms 1", "rooms 1 3/2", "rooms", "flow 1", "flow 1/2", "way 1 0", "way 1"]:
            self.no_split(PAIR, 0, line, "shares 1 0", "shares 1/2")
            self.no_split(PAIR, 1, "shares 1 0", line, "shares 1/2")
            self.no_split(PAIR, 2, "shares 1 0", "shares 1/2", line)
        self.no_split(PAIR, 2, "shares 1 0", "shares 1/2", "shares 1/2")
        self.no_split(PAIR, 3, "shares 1 0", "shares 1/2", "", "shares")
        self.no_split(NO_FLOWS, 0, "shares")
        self.no_split(NO_FLOWS, 1, "", "shares 0")

    def test_too_many_and_too_few_numbers(self):
        self.no_net(1, "rooms 1", "flow", "way 1")
        self.no_net(1, "rooms 1", "flow 1 1", "way 1")
        self.no_net(1, "rooms 1 1", "flow 1 1", "way 1 1")
        self.no_net(2, "rooms 1", "flow 1", "way")
        self.no_net(2, "rooms 1", "flow 1", "way 1 1")
        self.no_net(2, "rooms", "flow 1", "way 0")
        self.no_net(3, "rooms 1 1", "flow 1", "way 1 1", "way 1")
        self.no_net(3, "rooms 1 1", "flow 1", "way 1 1", "way 1 1 0")
        self.no_split(PAIR, 0, "shares", "shares 1/2")
        self.no_split(PAIR, 0, "shares 1", "shares 1/2")
        self.no_split(PAIR, 0, "shares 1 0 0", "shares 1/2")
        self.no_split(PAIR, 1, "shares 1 0", "shares")
        self.no_split(PAIR, 1, "shares 1 0", "shares 1/2 0")

    def test_shares_that_come_to_something_else(self):
        self.no_split(PAIR, 0, "shares 1 1", "shares 1/2")
        self.no_split(PAIR, 0, "shares 0 0", "shares 1/2")
        self.no_split(PAIR, 0, "shares 1/2 1/3", "shares 1/2")
        self.no_split(PAIR, 1, "shares 1 0", "shares 1")
        self.no_split(PAIR, 1, "shares 1 0", "shares 499999999/999999999")
        self.no_split(((), ((Z, ((),)),)), 0, "shares 1")
        self.reads_split(((), ((Z, ((),)),)), ((Z,),), "shares 0")

    def test_splits_that_are_not_let_are_read(self):
        self.reads_split(((Z, Z), PAIR[1]), ((I, Z), (H,)), "shares 1 0\nshares 1/2")

    def test_something_that_lacks(self):
        self.no_net(1, "")
        self.no_net(1, "# rooms 1")
        self.no_net(3, "", "  ", "#")
        self.no_net(2, "rooms 1", "flow 1")
        self.no_net(3, "rooms 1", "flow 1", "")
        self.no_net(5, "rooms 1", "flow 1", "way 1", "flow 1", "# way 1")
        self.no_split(PAIR, 1, "")
        self.no_split(PAIR, 1, "shares 1 0")
        self.no_split(PAIR, 4, "#", "shares 1 0", "", "# shares 1/2")

    def test_the_first_bad_line(self):
        self.no_net(1, "rooms 1", "flow x", "way 1 1", "x")
        self.no_net(2, "rooms 1", "flow 1", "way 1 1", "flow", "flow 1")
        self.no_net(3, "rooms 1", "flow 1", "", "flow x", "rooms 1")
        self.no_net(0, "rooms x", "rooms")
        self.no_net(2, "rooms 1", "flow 1", "way x", "flow 1")
        self.no_net(0, "x", "", "flow 1")
        self.no_split(PAIR, 0, "shares 1 1", "x", "shares 1/2")
        self.no_split(PAIR, 1, "shares 1 0", "shares 1", "shares 1")
        self.no_split(PAIR, 0, "shares 2/4 1/2")
        self.no_split(PAIR, 1, "shares 1 0", "way 1")

    def test_each_word_of_a_text_spoiled(self):
        for net, splits in [(PAIR, (((H, H), (H,)),)), *cases(6)]:
            self.spoil(show_net(net), lambda line, *lines: self.no_net(line, *lines))
            for split in splits:
                if split:
                    self.spoil(show_split(split), lambda line, *lines: self.no_split(net, line, *lines))

    def spoil(self, text, refuses):
        lines = text.split("\n")
        for k, line in enumerate(lines):
            words = line.split(" ")
            for j in range(len(words)):
                for word in ["x", "1/1", "-1", "02"]:
                    spoiled_line = " ".join(words[:j] + [word] + words[j + 1:])
                    refuses(k, *lines[:k], spoiled_line, *lines[k + 1:])
                    refuses(k + 1, "", *lines[:k], spoiled_line, *lines[k + 1:], "x")

    def test_no_string(self):
        for thing in [*ODD_VALUES, ["rooms"], ("rooms",), NoText(0)]:
            if not isinstance(thing, str):
                before = repr(thing)
                with self.assertRaises(Wrong) as caught:
                    read_net(thing)
                self.assertEqual(caught.exception.place, 0)
                with self.assertRaises(Wrong) as caught:
                    read_split(NO_FLOWS, thing)
                self.assertEqual(caught.exception.place, 1)
                self.assertEqual(repr(thing), before)

    def test_no_net(self):
        near = [thing for thing in spoiled(PAIR) if not is_net(thing)]
        for thing in [*ODD_VALUES, *near, show_net(PAIR), ((I, TWO), (H, ((I, I),)))]:
            for text in ["", "shares 1 0\nshares 1/2", "x", None, 7, []]:
                with self.assertRaises(Wrong) as caught:
                    read_split(thing, text)
                self.assertEqual(caught.exception.place, 0)

    def test_strings_of_no_meaning(self):
        for thing in ODD_VALUES:
            if isinstance(thing, str) and thing != "rooms 1":
                with self.assertRaises(NoText):
                    read_net(thing)
        self.no_net(0, "rooms " + "1 " * 1400 + "x")
        self.reads_net(((I,) * 1400, ()), "rooms " + "1 " * 1400)


if __name__ == "__main__":
    unittest.main()
