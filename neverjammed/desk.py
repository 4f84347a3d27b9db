"""A Control that is led by lines of words."""

from neverjammed.control import Control
from neverjammed.errors import Jammed, NoCommand, NoFlow, NoOrder, Wrong
from neverjammed.forms import is_split
from neverjammed.fractions import compared
from neverjammed.joining import are_joined
from neverjammed.locks import lock_of
from neverjammed.nets import is_let, loads_on
from neverjammed.reader import (
    fraction_of, is_number, many_lines, net_of_lines, split_of_lines, worded_lines, words_of,
)
from neverjammed.texts import show_fraction, show_net, show_split


class Desk:
    """A Control of the net and the split that a text shows."""

    def __init__(self, text):
        if not isinstance(text, str):
            raise Wrong(0)
        net, split = _net_and_split(text)
        for link, load in enumerate(loads_on(net, split)):
            if compared(load, net[0][link]) > 0:
                raise Jammed(link)
        self._net = net
        self._control = Control(net, split)

    def control(self):
        """A twin of the Control."""
        return self._control.twin()

    def execute(self, line):
        """The answer to a line, a list of strings: NoCommand() if it is no command."""
        if not isinstance(line, str) or "\n" in line:
            raise Wrong(0)
        words = words_of(line)
        if not words:
            raise NoCommand()
        if words[0] in ("order", "hear", "joined"):
            return self._answer_of_split(words[0], words[1:])
        if not all([is_number(word) for word in words[1:]]):
            raise NoCommand()
        numbers = [int(word) for word in words[1:]]
        if words[0] == "heard" and len(numbers) == 2:
            return self._heard(numbers[0], numbers[1])
        if words[0] == "pending" and len(numbers) == 1:
            return self._pending(numbers[0])
        if words[0] in ("worst", "sure", "lock", "net") and not numbers:
            return self._answer(words[0])
        raise NoCommand()

    def _answer_of_split(self, word, words):
        split = _split_of_words(self._net, words)
        if split is None:
            raise NoCommand()
        if word == "order":
            return self._order(split)
        if word == "hear":
            return [_line(lot) for lot in self._control.must_hear(split)] or ["no"]
        sure = self._control.sure_split()
        if sure is None:
            return ["not sure"]
        if not is_let(self._net, split):
            return ["not let"]
        return ["yes" if are_joined(self._net, sure, split) else "no"]

    def _answer(self, word):
        if word == "worst":
            return [" ".join([show_fraction(load) for load in self._control.worst_loads()])]
        if word == "net":
            return show_net(self._net).split("\n")
        sure = self._control.sure_split()
        if sure is None:
            return ["not sure"]
        if word == "sure":
            return show_split(sure).split("\n")
        return [_line(lock_of(self._net, sure))]

    def _order(self, split):
        try:
            return [str(self._control.order(split))]
        except Jammed as error:
            return [f"refused Jammed {error.link}"]

    def _heard(self, flow, number):
        try:
            self._control.heard(flow, number)
        except NoFlow:
            return ["refused NoFlow"]
        except NoOrder:
            return ["refused NoOrder"]
        return ["done"]

    def _pending(self, flow):
        try:
            rows = self._control.pending(flow)
        except NoFlow:
            return ["refused NoFlow"]
        return [" ".join([str(number)] + [show_fraction(share) for share in shares]) for number, shares in rows]


def _line(lot):
    return " ".join([str(index) for index in lot])


def _net_and_split(text):
    """The NET and the SPLIT of a text: the lines from the first one of shares on are those of the split."""
    lines = worded_lines(text)
    ats = [at for at, line in enumerate(lines) if line[1][0] == "shares"]
    ahead = lines[:ats[0]] if ats else lines
    behind = lines[len(ahead):]
    many = many_lines(text)
    # What lacks ahead of a line of shares makes this one the bad line.
    net = net_of_lines(ahead, behind[0][0] if behind else many)
    return net, split_of_lines(net, behind, many)


def _split_of_words(net, words):
    """The SPLIT of words, with `;` between two flows, None if they are none."""
    if not net[1] and not words:
        return ()
    rows = [[]]
    for word in words:
        if word == ";":
            rows.append([])
        else:
            rows[-1].append(fraction_of(word))
    split = tuple([tuple(row) for row in rows])
    return split if is_split(net, split) else None
