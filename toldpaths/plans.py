"""Plans: whether they find a path's answer, and the answer that they find."""

from toldpaths.bridges import board_of, followed
from toldpaths.checks import DIGITS, is_below, is_list, is_number, is_sign_of
from toldpaths.errors import BadAnswers, BadKind, BadPath, BadPlan
from toldpaths.paths import is_path, marks, reduced
from toldpaths.turnedplans import plan_word


def is_plan(book, path, thing):
    """Tell of any object whether it is a plan of the book for the path."""
    if not is_path(book.manner, path):
        raise BadPath(path)
    if not is_list(thing) or not all([_is_pair_of_plan(len(book), pair) for pair in thing]):
        return False
    if book.manner == "turned":
        return plan_word(book.kept(), thing) == reduced(path)
    return followed(board_of(book.manner, book.kept(), path), thing) is not None


def carried(book, path, plan, answers, kinds=None):
    """Return the answer of the path that the plan finds from the kept answers alone."""
    if not is_plan(book, path, plan):
        raise BadPlan(plan)
    _check_answers(len(book), answers)
    if book.manner == "any":
        _check_kinds(kinds)
    known = _known_things(answers)
    if book.manner == "any":
        having = [_things_having(known, mark, kinds) for mark in marks(path)]
        places = followed(board_of("any", book.kept(), path), plan)
        ends = _found_by_places(known, [having[place] for place in places], plan, answers)
    else:
        ends = _found_in_order(known, plan, answers)
    return [(x, known[at]) for x in sorted(ends) for at in range(len(known)) if ends[x] >> at & 1 == 1]


def _check_answers(many, answers):
    """Raise an error unless answers is a list of as many lists of pairs of integers from 0 on."""
    if not is_list(answers):
        raise BadAnswers(0)
    for index in range(max(many, len(answers))):
        if index >= many or index >= len(answers) or not _is_answer(answers[index]):
            raise BadAnswers(index)


def _is_pair_of_plan(many, thing):
    """Tell whether an object is a pair of the index of a kept path and a way."""
    return is_list(thing) and len(thing) == 2 and is_below(thing[0], many) and thing[1] in ("on", "back")


def _is_answer(thing):
    """Tell whether an object is a list of pairs of integers from 0 on."""
    return is_list(thing) and all([is_list(pair) and len(pair) == 2 and _is_row(pair) for pair in thing])


def _is_row(thing):
    """Tell whether an object is a list of integers from 0 on."""
    return is_list(thing) and all([is_number(x) and x >= 0 for x in thing])


def _check_kinds(kinds):
    """Raise an error unless kinds is None or a dict from digits to lists of integers from 0 on."""
    if kinds is None:
        return
    if not isinstance(kinds, dict):
        raise BadKind(kinds)
    for kind in kinds:
        if not is_sign_of(kind, DIGITS) or not _is_row(kinds[kind]):
            raise BadKind(kind)


def _known_things(answers):
    """Return the sorted list of all things that stand in a pair of any of the answers."""
    return sorted({x for pairs in answers for pair in pairs for x in pair})


def _things_having(known, mark, kinds):
    """Return a dict that has just the known things with all kinds of a mark as its keys."""
    things = {x: True for x in known}
    for kind in mark:
        others = {} if kinds is None else {x: True for x in kinds.get(kind, [])}
        things = {x: True for x in things if x in others}
    return things


def _found_by_places(known, having, plan, answers):
    """Return what a plan for "any" finds: for each thing the known things it is joined with, as bits.

    having tells the things that have the kinds of the places to which the plan comes.
    """
    ends = {x: 1 << at for at, x in enumerate(known) if x in having[-1]}
    for number in range(len(plan) - 1, -1, -1):
        index, way = plan[number]
        if way == "on":
            ends = _led_onward(answers[index], having[number], ends)
        else:
            full = (1 << len(known)) - 1
            ends = _led_backward(answers[index], having[number], having[number + 1], ends, full)
    return ends


def _found_in_order(known, plan, answers):
    """Return what the answers one behind the other find, turned about where the way is "back"."""
    things = {x: True for x in known}
    ends = {x: 1 << at for at, x in enumerate(known)}
    for index, way in plan[::-1]:
        pairs = answers[index] if way == "on" else [(y, x) for x, y in answers[index]]
        ends = _led_onward(pairs, things, ends)
    return ends


def _led_onward(pairs, things, ends):
    """Return the ends ahead of pairs: those that some pair leads to."""
    led = {}
    for x, z in pairs:
        if x in things and z in ends:
            led[x] = led.get(x, 0) | ends[z]
    return led


def _led_backward(pairs, things, others, ends, full):
    """Return the ends behind pairs: those that all other things which lead there have."""
    led = {z: full for z in things}
    for u, z in pairs:
        if z in led and u in others:
            led[z] = led[z] & ends.get(u, 0)
    return led
