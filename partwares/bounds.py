"""Bounds that more than one file looks at."""

LAST_DAY = 400
MOST_PRICE = 10 ** 6
MOST_ENTRIES = 100
