"""The calls' places, and the form in which each call stands in the one list."""

HOUSE = 0
PERSON = 1
MOVE = 2
RANK = 3
GATHER = 4
SPLIT = 5
LEND = 6
ARRIVE = 7
BACK = 8
GIVE = 9
CEDE = 10
EXTEND = 11
LOSE = 12

# How many whole numbers each call has, by its place.
NUMBER_COUNTS = (1, 3, 3, 3, 5, 4, 6, 1, 2, 3, 2, 3, 1, 1)

# The places of lend, arrive, back, give, lose and find.
PLACES_WITH_SHEETS = (6, 7, 8, 9, 12, 13)
