"""What [6] and [7] say, walked through day by day, to hold the program against."""

import itertools


def slow_course(rule, days, end):
    """As course, by looking at each day from 0 to end."""
    parts, step, grace, last, misses = rule.figures()[:5]
    due, paid, missed = 0, 0, 0
    for day in range(end + 1):
        if day == due + grace + 1:
            if missed == misses:
                return ("gone", day, paid, missed)
            missed, due = missed + 1, due + step
        for told in days:
            if told == day:
                paid += 1
                due = (day if last else due) + step
                if paid == parts:
                    return ("sold", day, paid, missed)
    return ("stands", due, paid, missed)


def slow_shown(rule, days, end):
    """As shown, by slow_course and the figures."""
    keep, fine, falls, back = rule.figures()[5:]
    word, day, paid, _ = slow_course(rule, days, end)
    if word == "stands":
        return (word, keep[paid], end <= falls)
    if word == "gone":
        return (word, min(100, keep[paid] + fine))
    return (word, end <= day + back)


def rows_to(end, most):
    """All rows of at most so many days, none above end: the shorter ones first, then as lists rise."""
    rows = []
    for many in range(most + 1):
        rows += [list(row) for row in itertools.combinations_with_replacement(range(end + 1), many)]
    return rows


def asks_to(end, most):
    """All pairs (days, end) of ends up to this one, in the order in which parted looks for the first."""
    return [(row, day) for day in range(end + 1) for row in rows_to(day, most)]


def slow_parted(one, other, asks):
    """The first of the asks by which the rules show unlike things, None where there's none."""
    for days, end in asks:
        if slow_shown(one, days, end) != slow_shown(other, days, end):
            return (days, end)
    return None
