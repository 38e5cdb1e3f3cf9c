"""Readings: how worths of links are read, and the answers of paths in them.

"costs" and "widths" are reckoned alike, by LOSSES: a worth's loss is the worth itself for
costs and its negative for widths, so that of several ways the one with the least loss
counts. Along a way costs add up, and of widths the greatest loss counts.
"""

READINGS = ("costs", "widths", "ways")


def is_reading(thing):
    """Tell whether an object is one of the three readings."""
    return isinstance(thing, str) and thing in READINGS


def least_worth(reading):
    """Return the least worth that a reading lets."""
    return 0 if reading == "costs" else 1


def loss_of(reading, worth):
    """Return the loss of a worth, or the worth of a loss."""
    return worth if reading == "costs" else -worth


def worths_along(reading, many, links, things):
    """Return the sorted list of the triples that a row of links, one for each step, gives.

    things is a list of the dicts that have the things which can stand at each place as
    keys; many is the number of all things.
    """
    if reading == "ways":
        return _ways_along(many, links, things)
    return _least_along(reading, links, things)


def _ways_along(many, links, things):
    """Do this for "ways": for each thing the numbers of all ends stand in one integer, in slots."""
    most = 1
    for triples in links:
        sums = [0] * many
        for x, _, worth in triples:
            sums[x] = sums[x] + worth
        most = most * max(sums + [1])
    slot = most.bit_length()
    rows = {y: 1 << slot * y for y in things[-1]}
    for place in range(len(links) - 1, -1, -1):
        led = {}
        for x, z, worth in links[place]:
            if x in things[place] and z in rows:
                led[x] = led.get(x, 0) + worth * rows[z]
        rows = led
    mask = (1 << slot) - 1
    found = [(x, y, rows[x] >> slot * y & mask) for x in sorted(rows) for y in range(many)]
    return [triple for triple in found if triple[2] > 0]


def _least_along(reading, links, things):
    """Do this for "costs" and "widths": for each thing there is a row of the losses to all ends."""
    # No way at all is as a loss above all others.
    none = 0
    if reading == "costs":
        none = 1 + sum([max([worth for _, _, worth in triples] + [0]) for triples in links])
    ends = sorted({y for _, y, _ in links[-1] if y in things[-1]})
    places = {y: at for at, y in enumerate(ends)}
    rows = {}
    for x, edges in _edges_from(reading, links[-1], things[-2], places).items():
        rows[x] = [none] * len(ends)
        for loss, y in edges:
            rows[x][places[y]] = loss
    for place in range(len(links) - 2, -1, -1):
        edges_from = _edges_from(reading, links[place], things[place], rows)
        # Behind an edge costs are at least these, however it goes on; a width takes nothing from the loss.
        low = min([min(row) for row in rows.values()] + [none]) if reading == "costs" else 0
        rows = {x: _least_row(reading, edges_from[x], rows, [none] * len(ends), low) for x in edges_from}
    found = [(x, y, loss) for x in sorted(rows) for y, loss in zip(ends, rows[x])]
    return [(x, y, loss_of(reading, loss)) for x, y, loss in found if loss < none]


def _edges_from(reading, triples, things, others):
    """Return for each thing the sorted list of the pairs (loss, thing behind) along a link."""
    edges = {}
    for x, z, worth in triples:
        if x in things and z in others:
            edges.setdefault(x, []).append((loss_of(reading, worth), z))
    return {x: sorted(edges[x]) for x in edges}


def _least_row(reading, edges, rows, best, low):
    """Return the least losses over all edges of a thing; best is what there is without them."""
    worst = max(best)
    for loss, z in edges:
        # No later edge loses less.
        if loss + low >= worst:
            break
        if reading == "costs":
            best = [one if one <= loss + other else loss + other for one, other in zip(best, rows[z])]
        else:
            best = [one if one <= loss or one <= other else max(loss, other) for one, other in zip(best, rows[z])]
        worst = max(best)
    return best
