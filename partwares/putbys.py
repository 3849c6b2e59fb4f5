"""One ware put by, to the penny."""

from partwares.courses import AT_FIRST, last_day_of, paid_on, passed_to
from partwares.errors import Idle, NoDay
from partwares.words import parts_of, share_up


class Putby:
    """A ware put by on a day, at a price, by a rule."""

    def __init__(self, rule, price, begin):
        self.rule = rule
        self.asked = price
        self.begin = begin
        self.passed = begin
        # A state as courses.py has it (or one of "up"), its days counted from begin.
        self.course = AT_FIRST
        self.paid_in = []
        self.paid_back = []

    def pay(self, day, who):
        """Pays the next part and tells its pence."""
        course = self.standing_on(day)
        pence = self.next_part()
        self.passed = day
        self.course = paid_on(self.rule, course, day - self.begin)
        self.paid_in.append((day, who, pence))
        return pence

    def give_up(self, day):
        """Gives the ware up; what isn't kept is paid back."""
        course = self.standing_on(day)
        self.passed = day
        self.let_off("up", day, self.rule.keeps(course[2]))

    def price_falls(self, day, price):
        """Takes the price where it is less than its own and the day is within the rule's falls days."""
        self.pass_to(day)
        if self.course[0] != "stands" or day - self.begin > self.rule.falls or price >= self.asked:
            return
        self.asked = price
        if self.paid() >= price:
            self.end("sold", day, self.paid() - price)

    def pass_to(self, day):
        """Does nothing till the begin of that day; what is missed by then is."""
        course = self.course_on(day)
        is_let_go = course[0] == "gone" and self.course[0] == "stands"
        self.passed = day
        self.course = course
        if is_let_go:
            self.let_off("gone", self.begin + course[1], self.rule.keeps(course[2], gone=True))

    def state(self):
        """("stands", due, paid, missed), or ("gone", day), ("up", day), ("sold", day)."""
        word, day, paid, missed = self.course
        if word == "stands":
            return (word, self.begin + day, paid, missed)
        return (word, self.begin + day)

    def price(self):
        """The price as it is now."""
        return self.asked

    def paid(self):
        """The pence paid, those paid back counted."""
        return sum([pence for day, who, pence in self.paid_in])

    def kept(self):
        """The pence that are the house's, 0 while it stands."""
        if self.course[0] == "stands":
            return 0
        return self.paid() - self.given_back()

    def backs(self):
        """The list of (day, who, pence) paid back."""
        return list(self.paid_back)

    def payments(self):
        """The list of (day, who, pence) paid."""
        return list(self.paid_in)

    def last_day(self):
        """The last day on which the next part may be paid, None where it doesn't stand."""
        last = last_day_of(self.rule, self.course)
        return None if last is None else self.begin + last

    def would_go(self, day):
        """Whether it is gone by the end of that day, were nothing done any more."""
        return passed_to(self.rule, self.course, day - self.begin)[0] == "gone"

    def next_part(self):
        """The pence of the next part of a ware that stands."""
        return parts_of(self.asked - self.paid(), len(self.rule) - self.course[2])[0]

    def refunds(self, day):
        """The rows (day, who, pence) by which all that isn't paid back yet is, were it done on that day."""
        return backs_of(self.paid_in, day, self.paid() - self.given_back(), self.given_back())

    def given_back(self):
        """The pence paid back."""
        return sum([pence for day, who, pence in self.paid_back])

    def course_on(self, day):
        """The course as it is at the begin of that day; nothing is done by asking."""
        if day < self.passed:
            raise NoDay("the day lies ahead of one that was passed")
        return passed_to(self.rule, self.course, day - self.begin)

    def standing_on(self, day):
        """As course_on, where the ware stands then."""
        course = self.course_on(day)
        if course[0] != "stands":
            raise Idle("the ware isn't put by any more")
        return course

    def let_off(self, word, day, percent):
        """Ends it on that day; so many percent of what is paid are kept."""
        self.end(word, day, self.paid() - share_up(self.paid(), percent))

    def end(self, word, day, pence):
        """Ends it on that day, so many pence being paid back."""
        self.course = (word, day - self.begin, self.course[2], self.course[3])
        self.paid_back = backs_of(self.paid_in, day, pence, 0)


def backs_of(payments, day, pence, aside):
    """The rows (day, who, pence) by which pence go back on that day, the last payment first, behind those aside."""
    backs = []
    for paid_on_day, who, most in reversed(payments):
        passed_over = min(aside, most)
        aside -= passed_over
        back = min(pence, most - passed_over)
        pence -= back
        if back > 0:
            backs.append((day, who, back))
    return backs
