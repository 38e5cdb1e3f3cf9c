"""What a plan for "any" finds from kept answers with worths."""

from toldpaths.equations import echelon, tails_without_head
from toldpaths.readings import loss_of


def worths_found(reading, known, having, plan, answers):
    """Return the sorted list of triples that a plan finds in a reading.

    known is the list of all known things; having tells those of them that have the kinds of
    the places to which the plan comes, as dicts that have them as keys.
    """
    if reading == "ways":
        return _ways_found(known, having, plan, answers)
    return _least_found(reading, having, plan, answers)


def _least_found(reading, having, plan, answers):
    """Return what is found in "costs" and "widths", by residues, from the plan's end on.

    For each thing there is a dict from ends to losses; None is the loss below all others.
    """
    ends = having[-1]
    nothing = 0 if reading == "costs" else None
    rows = {y: {y: nothing} for y in ends}
    for number in range(len(plan) - 1, -1, -1):
        index, way = plan[number]
        edges = [(x, z, loss_of(reading, worth)) for x, z, worth in answers[index]]
        if way == "on":
            rows = _led_onward(reading, edges, having[number], rows)
        else:
            rows = _led_backward(reading, edges, having[number], having[number + 1], rows, ends)
    found = [(x, y, rows[x][y]) for x in sorted(rows) for y in sorted(rows[x])]
    return [(x, y, loss_of(reading, loss)) for x, y, loss in found if loss is not None]


def _led_onward(reading, edges, things, rows):
    """Return the rows ahead of edges: the least of all losses along them."""
    led = {x: {} for x in things}
    for x, z, loss in edges:
        if x in things and z in rows:
            for y, other in rows[z].items():
                both = _added(reading, loss, other)
                if y not in led[x] or _is_less(both, led[x][y]):
                    led[x][y] = both
    return led


def _led_backward(reading, edges, things, others, rows, ends):
    """Return the rows behind edges: the least losses that lose along no edge less than the rows there."""
    led = {z: {y: None for y in ends} for z in things}
    for u, z, loss in edges:
        if z in things and u in others:
            # An end without a loss at one u has none here.
            longer = {y: _left_of(reading, rows[u][y], loss) for y in led[z] if y in rows[u]}
            led[z] = {y: longer[y] if _is_less(led[z][y], longer[y]) else led[z][y] for y in longer}
    return led


def _added(reading, loss, other):
    """Return the loss of two parts of a way."""
    if reading == "costs":
        return None if other is None else loss + other
    return loss if other is None else max(loss, other)


def _left_of(reading, whole, loss):
    """Return the least loss of a part of a way that makes the whole with a part of this loss."""
    if whole is None:
        return None
    if reading == "costs":
        return whole - loss
    return whole if whole > loss else None


def _is_less(one, other):
    """Tell whether a loss is less than another one."""
    return other is not None and (one is None or one < other)


def _ways_found(known, having, plan, answers):
    """Return what is found in "ways", by linear equations, from the plan's beginning on.

    A row has a head with a number for each known thing as a first one, and a tail with a
    number for each known thing at the place come to. All sums of the rows are all that the
    equations so far let: what is at the place for what had been at the beginning.
    """
    many = len(known)
    places = {x: at for at, x in enumerate(known)}
    rows = [_one_at(many, places[x]) + _one_at(many, places[x]) for x in having[0]]
    for number, (index, way) in enumerate(plan):
        table = _table_of(places, answers[index])
        here = [places[x] for x in having[number]]
        there = [places[x] for x in having[number + 1]]
        if way == "on":
            rows = [row[:many] + _times(row[many:], table, there) for row in rows]
        else:
            rows = tails_without_head(_rows_of_equations(many, rows, table, here, there), many)
        rows = echelon(rows)
    return [triple for row in rows for triple in _triples_of(known, row)]


def _rows_of_equations(many, rows, table, here, there):
    """Return rows whose sums that are 0 at the things of a place tell what can be at the place behind a "back".

    What is there, led on along the table, must be what is here.
    """
    heads = [row[many:] + row[:many] + [0] * many for row in rows]
    less = []
    for u in there:
        one = _one_at(many, u)
        less.append([-worth for worth in _times(one, table, here)] + [0] * many + one)
    return heads + less


def _one_at(many, at):
    """Return a row of numbers with just one 1."""
    return [0] * at + [1] + [0] * (many - at - 1)


def _table_of(places, triples):
    """Return the triples of an answer as a table of numbers between the known things."""
    table = [[0] * len(places) for _ in places]
    for x, z, worth in triples:
        table[places[x]][places[z]] = worth
    return table


def _times(row, table, columns):
    """Return a row times a table, with numbers in some columns alone."""
    found = [0] * len(row)
    for column in columns:
        found[column] = sum([number * line[column] for number, line in zip(row, table)])
    return found


def _triples_of(known, row):
    """Return the triples that a last row tells, if it is about just one first thing."""
    many = len(known)
    heads = [at for at in range(many) if row[at] != 0]
    if len(heads) != 1:
        return []
    share = row[heads[0]]
    return [(known[heads[0]], known[at], row[many + at] // share) for at in range(many) if row[many + at] // share > 0]
