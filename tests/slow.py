"""What [6] and [7] say, walked through day by day, to hold the program against."""

import itertools


def slow_course(rule, days, end):
    """As course, by looking at each day from 0 to end."""
    parts, step, grace, last, misses = rule.figures()[:5]
    due, paid, missed = 0, 0, 0
    for day in range(end + 1):
        if day == due + grace + 1:
            if missed == misses:
                return ("gone", day, paid, missed)
            missed, due = missed + 1, due + step
        for told in days:
            if told == day:
                paid += 1
                due = (day if last else due) + step
                if paid == parts:
                    return ("sold", day, paid, missed)
    return ("stands", due, paid, missed)


def slow_shown(rule, days, end):
    """As shown, by slow_course and the figures."""
    keep, fine, falls, back = rule.figures()[5:]
    word, day, paid, _ = slow_course(rule, days, end)
    if word == "stands":
        return (word, keep[paid], end <= falls)
    if word == "gone":
        return (word, min(100, keep[paid] + fine))
    return (word, end <= day + back)


def rows_to(end, most):
    """All rows of at most so many days, none above end: the shorter ones first, then as lists rise."""
    rows = []
    for many in range(most + 1):
        rows += [list(row) for row in itertools.combinations_with_replacement(range(end + 1), many)]
    return rows


def asks_to(end, most):
    """All pairs (days, end) of ends up to this one, in the order in which parted looks for the first."""
    return [(row, day) for day in range(end + 1) for row in rows_to(day, most)]


def slow_parted(one, other, asks):
    """The first of the asks by which the rules show unlike things, None where there's none."""
    for days, end in asks:
        if slow_shown(one, days, end) != slow_shown(other, days, end):
            return (days, end)
    return None


class SlowPutby:
    """As Putby: all deeds are kept by their days, and walked through day by day whenever something is asked."""

    def __init__(self, rule, price, begin):
        self.rule, self.first_price, self.begin, self.deeds, self.today = rule, price, begin, [], begin

    def do(self, day, *deed):
        """Notes a deed; False where it can't be done: ("pay", who), ("up",), ("falls", price), ("pass",)."""
        stands = self.walked(day)["word"] == "stands"
        if not stands and deed[0] in ("pay", "up"):
            return False
        self.today = day
        if stands:
            self.deeds.append((day, deed))
        return True

    def walked(self, end):
        """What has come of it at the end of day end, as a dict."""
        parts, step, grace, last, misses, keep, fine, falls, _ = self.rule.figures()
        now = {"word": "stands", "due": self.begin, "many": 0, "missed": 0, "price": self.first_price, "ended": None,
               "coins": [], "kept": 0, "backs": []}
        for day in range(self.begin, end + 1):
            if now["word"] == "stands" and day == now["due"] + grace + 1:
                if now["missed"] == misses:
                    self.ended(now, "gone", day, min(100, keep[now["many"]] + fine))
                else:
                    now["missed"] += 1
                    now["due"] += step
            for deed in [deed for told, deed in self.deeds if told == day and now["word"] == "stands"]:
                if deed[0] == "pay":
                    left, over = parts - now["many"], now["price"] - len(coins_of(now))
                    # A penny at a time is dealt to the parts that are left, the first one first.
                    dealt = [0] * left
                    for penny in range(over):
                        dealt[penny % left] += 1
                    now["coins"].append((day, deed[1], dealt[0]))
                    now["many"] += 1
                    now["due"] = (day if last else now["due"]) + step
                    if now["many"] == parts:
                        self.ended(now, "sold", day, None)
                elif deed[0] == "up":
                    self.ended(now, "up", day, keep[now["many"]])
                elif deed[0] == "falls" and day <= self.begin + falls and deed[1] < now["price"]:
                    now["price"] = deed[1]
                    if len(coins_of(now)) >= deed[1]:
                        self.ended(now, "sold", day, None)
        return now

    @staticmethod
    def ended(now, word, day, percent):
        """Ends it: a penny at a time goes back, the last one paid first, while more is there than is kept."""
        coins = coins_of(now)
        now["word"], now["ended"] = word, day
        kept = now["price"] if percent is None else -(-len(coins) * percent // 100)
        now["kept"] = kept
        backs = {}
        while len(coins) > kept:
            at = coins.pop()
            backs[at] = backs.get(at, 0) + 1
        now["backs"] = [(day, now["coins"][at][1], pence) for at, pence in backs.items()]


def coins_of(now):
    """Each penny paid, by the number of its payment."""
    return [at for at, (_, _, pence) in enumerate(now["coins"]) for _ in range(pence)]
