"""The document's own examples, as they stand, and that of README.md."""

import doctest
import io
import pathlib
import unittest

README = pathlib.Path(__file__).resolve().parent.parent / "README.md"

TEXTS = r'''
>>> from neverjammed.nets import agree, full_links, is_let, load_of, loads_on, mean_split, net_beside
>>> from neverjammed.reader import read_net, read_split
>>> from neverjammed.texts import show_net, show_split
>>> net = read_net("rooms 1 3/2\nflow 1\nway 1 0\nway 0 2\n# one more\nflow 1/2\nway 1 1")
>>> net
(((1, 1), (3, 2)), (((1, 1), (((1, 1), (0, 1)), ((0, 1), (2, 1)))), ((1, 2), (((1, 1), (1, 1)),))))
>>> split = read_split(net, "shares 1/2 1/2\nshares 1/2")
>>> [split, loads_on(net, split), load_of(net, split, 0, 1), full_links(net, split), is_let(net, split)]
[(((1, 2), (1, 2)), ((1, 2),)), ((1, 1), (3, 2)), (1, 1), (0, 1), True]
>>> other = (((1, 1), (0, 1)), ((1, 2),))
>>> [is_let(net, other), agree(net, split, other, ()), agree(net, split, other, (0,)), show_split(other)]
[False, True, False, 'shares 1 0\nshares 1/2']
>>> mean_split(net, (split, other), ((1, 2), (1, 2)))
(((3, 4), (1, 4)), ((1, 2),))
>>> [show_net(net_beside((((1, 1),), ()), ((), (((2, 1), ((),)),)))), read_net("rooms")]
['rooms 1\nflow 2\nway 0', ((), ())]
'''

TURNS = r'''
>>> from neverjammed.turns import clean_part, growths, is_clean, lacking_room, midst, worst_lot
>>> one, zero, half = (1, 1), (0, 1), (1, 2)
>>> net = (((3, 2),), ((one, ((one,), (zero,))), (one, ((one,), (zero,)))))
>>> here, there = ((one, zero), (zero, one)), ((zero, one), (one, zero))
>>> [is_clean(net, here, there), worst_lot(net, here, there, 0), lacking_room(net, here, there), growths(net, here, there)]
[False, ((2, 1), (1,)), ((1, 2),), ((1, 1),)]
>>> [midst(net, here, there, (0,)), clean_part(net, here, there)]
[(((0, 1), (1, 1)), ((0, 1), (1, 1))), (1, 2)]
'''


class ExamplesTest(unittest.TestCase):

    def holds(self, name, text, many):
        told = io.StringIO()
        test = doctest.DocTestParser().get_doctest(text, {}, name, None, None)
        result = doctest.DocTestRunner(verbose=False).run(test, out=told.write)
        self.assertEqual((result.failed, result.attempted), (0, many), told.getvalue())

    def test_texts(self):
        self.holds("[15]", TEXTS, 11)

    def test_turns(self):
        self.holds("[18]", TURNS, 6)

    def test_readme(self):
        self.holds("README.md", README.read_text(), 10)


if __name__ == "__main__":
    unittest.main()
