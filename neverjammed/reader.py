"""Nets and splits read from texts."""

from neverjammed.errors import NoText, Wrong
from neverjammed.forms import is_fraction, is_net, is_shares

MOST_DIGITS = 9


def read_net(text):
    """The NET that a text shows."""
    if not isinstance(text, str):
        raise Wrong(0)
    return net_of_lines(worded_lines(text), many_lines(text))


def read_split(net, text):
    """The SPLIT of the net that a text shows."""
    if not is_net(net):
        raise Wrong(0)
    if not isinstance(text, str):
        raise Wrong(1)
    return split_of_lines(net, worded_lines(text), many_lines(text))


def many_lines(text):
    """How many lines a text has, empty ones among them."""
    return text.count("\n") + 1


def worded_lines(text):
    """The tuples (index, words) of the lines of a text that have words ahead of a remark."""
    # Each line keeps its index, as the lines that are skipped are counted, too.
    found = []
    for index, line in enumerate(text.split("\n")):
        words = words_of(line.partition("#")[0])
        if words:
            found.append((index, words))
    return found


def words_of(line):
    """The words of a line."""
    # Only blanks part words: split() without an argument would take tabs as well.
    return [word for word in line.split(" ") if word]


def net_of_lines(lines, behind):
    """The NET of worded lines: NoText(behind) if something lacks."""
    if not lines:
        raise NoText(behind)
    rooms = _rooms_of(lines[0])
    flows = []
    for index, words in lines[1:]:
        lacks_way = bool(flows) and not flows[-1][1]
        if words[0] == "way" and flows:
            flows[-1][1].append(_numbers_of(index, words, len(rooms)))
        elif words[0] == "flow" and not lacks_way:
            flows.append((_numbers_of(index, words, 1)[0], []))
        else:
            raise NoText(index)
    if flows and not flows[-1][1]:
        raise NoText(behind)
    return rooms, tuple([(demand, tuple(ways)) for demand, ways in flows])


def _rooms_of(line):
    index, words = line
    if words[0] != "rooms":
        raise NoText(index)
    return _numbers_of(index, words, len(words) - 1)


def split_of_lines(net, lines, behind):
    """The SPLIT of worded lines: NoText(behind) if something lacks."""
    flows = net[1]
    split = []
    for index, words in lines:
        flow = len(split)
        if words[0] != "shares" or flow == len(flows):
            raise NoText(index)
        shares = _numbers_of(index, words, len(flows[flow][1]))
        if not is_shares(net, flow, shares):
            raise NoText(index)
        split.append(shares)
    if len(split) < len(flows):
        raise NoText(behind)
    return tuple(split)


def _numbers_of(index, words, many):
    parts = [fraction_of(word) for word in words[1:]]
    if len(parts) != many or None in parts:
        raise NoText(index)
    return tuple(parts)


def fraction_of(word):
    """The FRACTION from 0 on that a word shows, None if it shows none."""
    num, stroke, den = word.partition("/")
    if not stroke:
        den = "1"
    elif den == "1":
        return None
    if not is_number(num) or not is_number(den):
        return None
    part = (int(num), int(den))
    return part if is_fraction(part) else None


def is_number(word):
    """Whether a word is an integer from 0 on, as Python shows it, of at most nine digits."""
    if not word.isascii() or not word.isdigit() or len(word) > MOST_DIGITS:
        return False
    return word == "0" or not word.startswith("0")
