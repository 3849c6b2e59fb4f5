"""What a rule shows at the end of a day, and where two rules part."""

from partwares.bounds import LAST_DAY
from partwares.courses import AT_FIRST, course, paid_on, passed_to
from partwares.words import is_number_in

MOST_DAYS = 40


def shown(rule, days, end):
    """What the rule shows at the end of day end by the row of days."""
    return shown_of(rule, course(rule, days, end), end)


def shown_of(rule, state, end):
    """What the rule shows at the end of day end by the state that the ware has then."""
    word, day, paid, missed = state
    if word == "gone":
        return ("gone", rule.keeps(paid, gone=True))
    if word == "sold":
        return ("sold", end - day <= rule.back)
    return ("stands", rule.keeps(paid), end <= rule.falls)


def parted(one, other):
    """The first pair (days, end) by which the rules show unlike things, None where there's none."""
    # Rows that lead both rules to the same states part alike from then on, so the first of them is enough.
    rows = {(AT_FIRST, AT_FIRST): []}
    end = 0
    while len(rows) > 0:
        rows = rows_by_end(one, other, rows, end)
        unlike = [rows[states] for states in rows if show_unlike(one, other, states, end)]
        if len(unlike) > 0:
            return (min(unlike, key=order_of_row), end)
        # Both show the same here: where that never changes for one, it never does for the other.
        rows = {states: rows[states] for states in rows if may_change(shown_of(one, states[0], end))}
        end += 1
    return None


def show_unlike(one, other, states, end):
    """Whether the rules show unlike things at the end of day end by their two states."""
    return shown_of(one, states[0], end) != shown_of(other, states[1], end)


def may_change(thing):
    """Whether a rule that shows this may show something else at the end of a later day."""
    return thing[0] == "stands" or thing == ("sold", True)


def rows_by_end(one, other, rows, end):
    """The first row to each pair of states at the end of day end, by those at the end of the day ahead."""
    firsts = {}
    for (left, right), days in rows.items():
        left_now = passed_to(one, left, end)
        right_now = passed_to(other, right, end)
        keep_first(firsts, (left_now, right_now), list(days))
        for many in range(1, max(len(one), len(other)) + 1):
            left_now = paid_on(one, left_now, end)
            right_now = paid_on(other, right_now, end)
            keep_first(firsts, (left_now, right_now), days + [end] * many)
    return firsts


def keep_first(firsts, states, days):
    """Keeps the row among the first ones, if none that goes ahead of it leads to these states."""
    if states not in firsts or order_of_row(days) < order_of_row(firsts[states]):
        firsts[states] = days


def order_of_row(days):
    """That by which rows are ordered: the fewest days, then as lists rise."""
    return (len(days), days)


def shows_parted(one, other, thing):
    """Whether thing is a pair (days, end) by which the rules show unlike things."""
    if not isinstance(thing, tuple) or len(thing) != 2:
        return False
    days, end = thing
    if not is_number_in(end, 0, LAST_DAY) or not is_row_to(days, end):
        return False
    return shown(one, days, end) != shown(other, days, end)


def is_row_to(days, end):
    """Whether days is a list of days that never fall, none above end."""
    if not isinstance(days, list) or len(days) > MOST_DAYS:
        return False
    return all([is_number_in(day, 0, end) for day in days]) and days == sorted(days)
