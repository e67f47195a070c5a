"""Layers: all rows to which courses lead, ride by ride, each with the fewest minutes that lead to it."""

from citylines.errors import TooMany

MOST_STANDINGS = 4000
MOST_STEPS = 40000


def delays_let(chart, many, minutes):
    """The rising list of the delays that are let at many behind so many minutes."""
    left = chart.budget - minutes
    if many < len(chart.heard):
        return [chart.heard[many]] if chart.heard[many] <= left else []
    return list(range(min(chart.bounds[many], left) + 1))


def layers_from(chart, first, last, begin, behind):
    """The layers from the first position to the last one: dicts that tell of each row (minutes, least prefix).

    The first layer is to have the row of begin alone: a tuple (row, minutes). What comes of a row, by each of some
    delays, behind(many, row, delays) tells as a list of rows. A prefix has the delays from the first position on.
    """
    row, minutes = begin
    layer = {row: (minutes, ())}
    layers = [layer]
    total = 1
    for many in range(first, last):
        layer = layer_behind(chart, many, layer, behind)
        total += len(layer)
        if total > MOST_STEPS:
            raise TooMany("steps", MOST_STEPS)
        layers.append(layer)
    return layers


def layer_behind(chart, many, layer, behind):
    """The layer that comes of this one."""
    found = {}
    for row, (minutes, prefix) in layer.items():
        delays = delays_let(chart, many, minutes)
        for delay, key in zip(delays, behind(many, row, delays)):
            spent = (minutes + delay, prefix + (delay,))
            if key not in found:
                if len(found) == MOST_STANDINGS:
                    raise TooMany("standings", MOST_STANDINGS)
                found[key] = spent
            elif spent < found[key]:
                found[key] = spent
    return found


def do_close(chart, layers, behind):
    """Whether of each row, by each delay let, a row of the next layer comes, with no more minutes than are spent.

    The layers are dicts of the rows' minutes; where behind tells None for a row, none is good enough.
    """
    for many in range(len(layers) - 1):
        for row, minutes in layers[many].items():
            delays = delays_let(chart, many, minutes)
            for delay, key in zip(delays, behind(many, row, delays)):
                if layers[many + 1].get(key, chart.budget + 1) > minutes + delay:
                    return False
    return True


def filled(chart, prefix):
    """The course that begins with the prefix, and has behind it what is heard, and noughts."""
    rest = chart.heard[len(prefix):]
    return prefix + rest + (0,) * (chart.many - len(prefix) - len(rest))


def lesser(one, other):
    """The lesser one of two courses: of fewer minutes, of these the first one as tuples; None stands for none."""
    if one is None or other is None:
        return other if one is None else one
    return other if (sum(other), other) < (sum(one), one) else one
