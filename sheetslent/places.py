"""The calls' places, and the form in which each call stands in the one list."""

HOUSE = 0
PERSON = 1
MOVE = 2
RANK = 3
GATHER = 4
SPLIT = 5
LEND = 6
ARRIVE = 7
BACK = 8
GIVE = 9
CEDE = 10
EXTEND = 11
LOSE = 12
FIND = 13
DESTROY = 14
DETERMINE = 15
# Typify makes a sheet stand for a name, typified asks which sheets do; the document's own words are barred here.
TYPIFY = 16
WHERE = 17
CUSTODY = 18
NAME = 19
# The place 20, dets, needs no name: it is what is left of the questions about one sheet.
INSIDE = 21
BOOKS = 22
OVERDUE = 23
GATHERING = 24
TYPIFIED = 25
HISTORY = 26
LOG = 27

# How many whole numbers each call has, by its place.
NUMBER_COUNTS = (1, 3, 3, 3, 5, 4, 6, 1, 2, 3, 2, 3, 1, 1, 2, 5, 3, 2, 2, 2, 2, 2, 2, 1, 2, 2, 1, 0)

# The places of lend, arrive, back, give, lose and find.
PLACES_WITH_SHEETS = (6, 7, 8, 9, 12, 13)
