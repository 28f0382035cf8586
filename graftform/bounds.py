"""The limits that the points of the document name."""

NAME_LETTERS = 8
