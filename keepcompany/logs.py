"""LOGS: what is told of a BOX that nobody has opened, and what it can answer next."""

from keepcompany.checks import is_fraction, taken, taken_fraction, taken_row
from keepcompany.errors import TooMany, Unfit
from keepcompany.ladders import fall_of, row_against, stretch_behind
from keepcompany.ratios import ZERO, below, dot, mult, plus
from keepcompany.series import row_over
from keepcompany.shapes import answers_of, taken_small
from keepcompany.told import MOST_HEARD, refuse_off, silent, taken_which


def pair_of_fractions(thing):
    return isinstance(thing, tuple) and len(thing) == 2 and is_fraction(thing[0]) and is_fraction(thing[1])


def log_shaped(thing):
    """Whether thing is a LOG."""
    if not isinstance(thing, tuple) or not thing or not all([pair_of_fractions(own) for own in thing]):
        return False
    return thing[0][0] != ZERO


def taken_log(value):
    return taken(value, 3, log_shaped)


def pushes_of(log):
    return tuple([push for push, _ in log])


def told_answers(log):
    return tuple([answer for _, answer in log])


def told_echoes(log):
    """The ECHOES of log, as many as pairs."""
    return row_over(told_answers(log), pushes_of(log))


def judged_echoes(log):
    """The same; TooMany for more than 12 pairs, Unfit if all answers are 0."""
    if len(log) > MOST_HEARD:
        raise TooMany()
    if silent(told_answers(log)):
        raise Unfit()
    return told_echoes(log)


def is_log(thing):
    """Whether thing is a LOG."""
    return log_shaped(thing)


def echoes_of(log):
    """The ECHOES that log tells, as many as pairs."""
    return told_echoes(taken_log(log))


def log_made(box, pushes):
    """The LOG of pushes of box."""
    return tuple([(push, answer) for push, answer in zip(pushes, answers_of(box, pushes))])


def log_of(box, pushes):
    """The LOG of pushes, the first not 0, of box."""
    own, row = taken_small(box), taken_row(pushes)
    if not row or row[0] == ZERO:
        raise Unfit()
    return log_made(own, row)


def could_be(log):
    """Whether log is of some KEEPER."""
    return fall_of(judged_echoes(taken_log(log))) is None


def surely_gives(log):
    """Pushes that are a GIVING ROW for all SMALL BOXES that log is of."""
    return row_against(judged_echoes(taken_log(log)))


def answer_stretch(log, push):
    """The pair of the least and the greatest answer to push behind log; CanNot if not could_be."""
    heard = judged_echoes(log)
    refuse_off(heard)
    pushes = pushes_of(log) + (push,)
    first = pushes[0]
    ahead = dot(pushes[1:], heard[::-1])
    ends = [plus(ahead, mult(first, own)) for own in stretch_behind(heard)]
    return tuple(ends[::-1]) if below(first, ZERO) else tuple(ends)


def next_answer(log, push):
    """The pair (low, high) of the least and the greatest answer of a KEEPER to push next."""
    own, more = taken_log(log), taken_fraction(push)
    return answer_stretch(own, more)


def log_end(log, push, which):
    """log, and behind it the pair of push and the least or the greatest answer."""
    own, more, end = taken_log(log), taken_fraction(push), taken_which(which)
    return own + ((more, answer_stretch(own, more)[end]),)


def logs_agree(log, other_log):
    """Whether some BOX has both: whether the ECHOES of one begin those of the other."""
    own, second = told_echoes(taken_log(log)), told_echoes(taken_log(other_log))
    many = min(len(own), len(second))
    return own[:many] == second[:many]


def put_in_of(log):
    """The WORK of log."""
    own = taken_log(log)
    return dot(pushes_of(own), told_answers(own))


def whoever_could(log):
    """Whether log never brought out more than had gone in."""
    work = ZERO
    for push, answer in taken_log(log):
        work = plus(work, mult(push, answer))
        if work[0] < 0:
            return False
    return True
