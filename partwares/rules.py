"""The rule by which a ware is put by."""

from partwares.clauses import clauses_of
from partwares.errors import BadRule
from partwares.words import is_number_in


class Rule:
    """Nine figures that say how a ware put by is paid, kept, let go and brought back."""

    def __init__(self, parts, step, grace=0, last=False, misses=0, keep=0, fine=0, falls=0, back=0):
        word = wrong_figure(parts, step, grace, last, misses, keep, fine, falls, back)
        if word is not None:
            raise BadRule(word)
        self.parts = parts
        self.step = step
        self.grace = grace
        self.last = last
        self.misses = misses
        # One number is spread over all parts, so that rules alike have figures alike.
        self.keep = keep if isinstance(keep, tuple) else (keep,) * parts
        self.fine = fine
        self.falls = falls
        self.back = back

    def keeps(self, paid, gone=False):
        """The percent kept where so many parts are paid and it is given up, or gone."""
        # A number of parts beyond the bounds is taken as the nearest one, as no refusal is told.
        percent = self.keep[max(0, min(paid, self.parts - 1))]
        if gone:
            return min(100, percent + self.fine)
        return percent

    def figures(self):
        """All nine figures, keep as a number for each part."""
        return (
            self.parts,
            self.step,
            self.grace,
            self.last,
            self.misses,
            self.keep,
            self.fine,
            self.falls,
            self.back,
        )

    def __eq__(self, other):
        return isinstance(other, Rule) and self.figures() == other.figures()

    def __len__(self):
        return len(self.keep)

    def __str__(self):
        return ", ".join(clauses_of(self.figures()))

    def __repr__(self):
        return f"Rule({self!s})"


def wrong_figure(parts, step, grace, last, misses, keep, fine, falls, back):
    """The name of the first figure that may not be so, None where all may."""
    checks = [
        ("parts", is_number_in(parts, 1, 6)),
        ("step", is_number_in(step, 1, 14)),
        ("grace", is_number_in(grace, 0, 7)),
        ("last", isinstance(last, bool)),
        ("misses", is_number_in(misses, 0, 2)),
        ("keep", may_be_kept(keep, parts)),
        ("fine", is_number_in(fine, 0, 100)),
        ("falls", is_number_in(falls, 0, 30)),
        ("back", is_number_in(back, 0, 30)),
    ]
    for word, right in checks:
        if not right:
            return word
    return None


def may_be_kept(keep, parts):
    """Whether keep is a percent, or a tuple of as many percents as there are parts."""
    if not isinstance(keep, tuple):
        return is_number_in(keep, 0, 100)
    return len(keep) == parts and all([is_number_in(percent, 0, 100) for percent in keep])
