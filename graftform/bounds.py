"""The limits that the points of the document name."""

NAME_LETTERS = 8
HIGHEST_COUNT = 9
MACHINE_STATES = 64
BOOK_RULES = 8
DOC_PLACES = 300
