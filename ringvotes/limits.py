"""The numbers that bound nets, rules, faults and judging."""

MOST_PIPES = 12
MOST_METERS = 12
MOST_ROWS = 8
MOST_SUMS = 10
MOST_FAULTS = 3
MOST_OFFERS = 6
MOST_PAIRS = 1000
