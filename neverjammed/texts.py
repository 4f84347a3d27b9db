"""Nets and splits shown as texts."""


def show_fraction(part):
    """The word of a FRACTION: N alone if its den is 1, otherwise N/N."""
    num, den = part
    if den == 1:
        return str(num)
    return f"{num}/{den}"


def show_net(net):
    """The lines of a net: its rooms, and each flow with its ways behind it."""
    rooms, flows = net
    lines = [_line("rooms", rooms)]
    for demand, ways in flows:
        lines.append(_line("flow", (demand,)))
        lines.extend([_line("way", way) for way in ways])
    return "\n".join(lines)


def show_split(split):
    """The lines of a split: the shares of each flow."""
    return "\n".join([_line("shares", shares) for shares in split])


def _line(word, parts):
    return " ".join([word] + [show_fraction(part) for part in parts])
