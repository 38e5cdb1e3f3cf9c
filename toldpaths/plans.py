"""Plans: whether they find a path's answer, and the answer that they find."""

from toldpaths.bridges import board_of, followed
from toldpaths.checks import DIGITS, is_below, is_list, is_number, is_sign_of
from toldpaths.errors import BadAnswers, BadKind, BadPath, BadPlan
from toldpaths.paths import is_path, marks, reduced
from toldpaths.tables import things_having
from toldpaths.turnedplans import plan_word


def is_plan(book, path, thing):
    """Tell of any object whether it is a plan of the book for the path."""
    if not is_path(book.manner, path):
        raise BadPath(path)
    if not is_list_of_ways(len(book), thing):
        return False
    if book.manner == "turned":
        return plan_word(book.kept(), thing) == reduced(path)
    return followed(board_of(book.manner, book.kept(), path), thing) is not None


def carried(book, path, plan, answers, kinds=None):
    """Return the answer of the path that the plan finds from the kept answers alone."""
    if not is_plan(book, path, plan):
        raise BadPlan(plan)
    check_answers(len(book), answers, is_answer)
    if book.manner != "any":
        return found_in_order(plan, answers)
    check_kinds(kinds)
    known = known_things(answers)
    places = followed(board_of("any", book.kept(), path), plan)
    mark_at = marks(path)
    having = [things_having(known, mark_at[place], {} if kinds is None else kinds) for place in places]
    return found_by_places(known, having, plan, answers)


def is_list_of_ways(many, thing):
    """Tell whether an object is a list of pairs of an index below many and a way."""
    return is_list(thing) and all([_is_index_and_way(many, pair) for pair in thing])


def check_answers(many, answers, is_right):
    """Raise an error unless answers is a list of as many answers that are right.

    is_right(thing) tells of any object whether it can be the answer of a kept path.
    """
    if not is_list(answers):
        raise BadAnswers(0)
    for index in range(max(many, len(answers))):
        if index >= many or index >= len(answers) or not is_right(answers[index]):
            raise BadAnswers(index)


def is_answer(thing):
    """Tell whether an object is a list of pairs of integers from 0 on."""
    return is_list(thing) and all([is_natural_row(pair) and len(pair) == 2 for pair in thing])


def is_natural_row(thing):
    """Tell whether an object is a list of integers from 0 on."""
    return is_list(thing) and all([is_number(x) and x >= 0 for x in thing])


def check_kinds(kinds):
    """Raise an error unless kinds is None or a dict from digits to lists of integers from 0 on."""
    if kinds is None:
        return
    if not isinstance(kinds, dict):
        raise BadKind(kinds)
    for kind in kinds:
        if not is_sign_of(kind, DIGITS) or not is_natural_row(kinds[kind]):
            raise BadKind(kind)


def known_things(answers):
    """Return the sorted list of all things that stand in a pair of any of the answers."""
    return sorted({x for pairs in answers for pair in pairs for x in pair[:2]})


def found_by_places(known, having, plan, answers):
    """Return the sorted list of pairs that a plan for "any" finds.

    having tells the known things that have the kinds of the places to which the plan comes.
    """
    ends = {x: 1 << at for at, x in enumerate(known) if x in having[-1]}
    for number in range(len(plan) - 1, -1, -1):
        index, way = plan[number]
        if way == "on":
            ends = _led_onward(answers[index], having[number], ends)
        else:
            full = (1 << len(known)) - 1
            ends = _led_backward(answers[index], having[number], having[number + 1], ends, full)
    return _pairs_of(known, ends)


def found_in_order(plan, answers):
    """Return the sorted list of pairs that the answers one behind the other join, turned about where it goes "back"."""
    known = known_things(answers)
    things = {x: True for x in known}
    ends = {x: 1 << at for at, x in enumerate(known)}
    for index, way in plan[::-1]:
        pairs = answers[index] if way == "on" else [(y, x) for x, y in answers[index]]
        ends = _led_onward(pairs, things, ends)
    return _pairs_of(known, ends)


def _is_index_and_way(many, thing):
    """Tell whether an object is a pair of an index and a way."""
    return is_list(thing) and len(thing) == 2 and is_below(thing[0], many) and thing[1] in ("on", "back")


def _pairs_of(known, ends):
    """Return the sorted list of pairs of things whose ends among the known things are told as bits."""
    return [(x, known[at]) for x in sorted(ends) for at in range(len(known)) if ends[x] >> at & 1 == 1]


def _led_onward(pairs, things, ends):
    """Return the ends ahead of pairs: those that some pair leads to."""
    led = {}
    for x, z in pairs:
        if x in things and z in ends:
            led[x] = led.get(x, 0) | ends[z]
    return led


def _led_backward(pairs, things, others, ends, full):
    """Return the ends behind pairs: those that all other things which lead there have."""
    led = {z: full for z in things}
    for u, z in pairs:
        if z in led and u in others:
            led[z] = led[z] & ends.get(u, 0)
    return led
