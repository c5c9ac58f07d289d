"""The bounds of the words that every call uses."""

GREATEST_KEY = 1000000000
GREATEST_DAY = 1000000
GREATEST_RANK = 9
GREATEST_CONF = 3
LONGEST_LIST = 8

MOST_HOUSES = 12
MOST_PERSONS = 20
MOST_SHEETS = 60
MOST_LOANS = 40
MOST_ENTRIES = 300


def is_key(number):
    return 1 <= number <= GREATEST_KEY


def is_day(number):
    return 0 <= number <= GREATEST_DAY


def is_rank(number):
    return 1 <= number <= GREATEST_RANK


def is_right_list(numbers):
    return 1 <= len(numbers) <= LONGEST_LIST and len(set(numbers)) == len(numbers)
