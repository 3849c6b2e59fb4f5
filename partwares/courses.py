"""What comes of a row of days on which the parts of a ware are paid."""

# A ware as it is put by: the first part is due on day 0, none is paid, none was missed.
AT_FIRST = ("stands", 0, 0, 0)


def course(rule, days, end):
    """What has come of the row of days by the end of day end: (word, day, paid, missed)."""
    state = AT_FIRST
    for day in days:
        if day <= end:
            state = paid_on(rule, passed_to(rule, state, day), day)
    return passed_to(rule, state, end)


def passed_to(rule, state, day):
    """The state at the begin of that day, nothing being paid ahead of it."""
    word, due, paid, missed = state
    if word != "stands":
        return state
    while due + rule.grace < day:
        if missed == rule.misses:
            return ("gone", due + rule.grace + 1, paid, missed)
        missed += 1
        due += rule.step
    return ("stands", due, paid, missed)


def paid_on(rule, state, day):
    """The state where the next part is paid on that day, to whose begin it was passed."""
    word, due, paid, missed = state
    if word != "stands":
        return state
    if paid + 1 == len(rule):
        return ("sold", day, paid + 1, missed)
    counted_from = day if rule.last else due
    return ("stands", counted_from + rule.step, paid + 1, missed)


def last_day(rule, days):
    """The last day on which the next part may be paid, None where it is gone or sold."""
    end = days[-1] if len(days) > 0 else 0
    return last_day_of(rule, course(rule, days, end))


def last_day_of(rule, state):
    """The last day on which the next part may be paid by this state, None where it doesn't stand."""
    word, due, paid, missed = state
    if word != "stands":
        return None
    return due + (rule.misses - missed) * rule.step + rule.grace


def row_at_last(rule):
    """The row of days by which each part is paid on the last day on which it may be."""
    days = []
    while len(days) < len(rule):
        days.append(last_day(rule, days))
    return days
