"""Names, numbers, and sums of pence."""

LETTERS = "abcdefghijklmnopqrstuvwxyz"
FIGURES = "0123456789"
LONGEST_NAME = 8
CROWN = 60
MOST_PENCE = 10 ** 9
LONGEST_SUM = 60


def is_name(thing):
    """Whether thing is a text of 1 to 8 letters from a to z."""
    return isinstance(thing, str) and len(thing) <= LONGEST_NAME and is_made_of(thing, LETTERS)


def is_made_of(text, signs):
    """Whether text has a sign, and none but these."""
    return text != "" and all([sign in signs for sign in text])


def is_number_in(thing, low, high):
    """Whether thing is a number from low to high."""
    # To Python True and False are whole numbers, here they are none.
    return isinstance(thing, int) and not isinstance(thing, bool) and low <= thing <= high


def number_in(text, most):
    """The number from 0 to most whose plain figures are just this text, else None."""
    # Python refuses to read very long numbers, and none to most is so long.
    if len(text) > len(str(most)) or not is_made_of(text, FIGURES):
        return None
    number = int(text)
    if number > most or str(number) != text:
        return None
    return number


def pence_text(pence):
    """The text of a sum: its crowns, a stroke, the pence left by two figures."""
    crowns, left = divmod(pence, CROWN)
    return f"{crowns}/{left:02d}"


def pence_in(text):
    """The pence of which pence_text tells just this text, else None."""
    # Python refuses to read very long numbers, and no sum's text is so long.
    if len(text) > LONGEST_SUM:
        return None
    crowns, stroke, left = text.partition("/")
    if not is_made_of(crowns, FIGURES) or not is_made_of(left, FIGURES):
        return None
    pence = int(crowns) * CROWN + int(left)
    if pence > MOST_PENCE or pence_text(pence) != text:
        return None
    return pence


def parts_of(pence, many):
    """The pence in so many parts as even as can be, the greater ones first."""
    if many < 1:
        return []
    least, over = divmod(pence, many)
    return [least + 1] * over + [least] * (many - over)


def share_up(pence, percent):
    """So many hundredths of the pence, rounded up."""
    return (pence * percent + 99) // 100
