"""[15]: what is shown."""

import unittest

from neverjammed.texts import show_net, show_split
from tests.helper import H, I, IDLE, NOTHING, NO_FLOWS, NO_LINKS, PAIR, Z


class TextsTest(unittest.TestCase):

    def test_nets(self):
        for net, lines in [
            (PAIR, ["rooms 1 3/2", "flow 1", "way 1 0", "way 0 2", "flow 1/2", "way 1 1"]),
            (IDLE, ["rooms 0 1/2", "flow 0", "way 1 1", "way 0 0", "flow 2/3", "way 0 1/2", "way 0 1/2", "way 0 0"]),
            (NO_LINKS, ["rooms", "flow 1", "way", "way", "flow 1/2", "way"]),
            (NO_FLOWS, ["rooms 1 0 3/2"]),
            (NOTHING, ["rooms"]),
            ((((10 ** 59, 3),), ()), ["rooms 1" + "0" * 59 + "/3"]),
        ]:
            before = repr(net)
            self.assertEqual(show_net(net), "\n".join(lines))
            self.assertEqual(repr(net), before)

    def test_splits(self):
        for split, text in [
            ((), ""), (((H, H), (H,)), "shares 1/2 1/2\nshares 1/2"), (((I, Z),), "shares 1 0"), (((Z,),), "shares 0"),
            ((((22, 7),), ((10 ** 59, 1), (1, 10 ** 59))), "shares 22/7\nshares 1" + "0" * 59 + " 1/1" + "0" * 59),
        ]:
            before = repr(split)
            self.assertEqual(show_split(split), text)
            self.assertEqual(repr(split), before)


if __name__ == "__main__":
    unittest.main()
