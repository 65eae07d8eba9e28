"""Squares: their numbers, their columns and rows, and how they are written."""

from playboard.words import number_of, number_text

# More letters than a board has columns: no square is refused for its column.
COLUMNS = "abcdefghijklmnopqrstuvwxyz"


def column_of(wide, square):
    return square % wide


def row_of(wide, square):
    return square // wide


def square_at(wide, column, row):
    return row * wide + column


def square_text(wide, square):
    return COLUMNS[column_of(wide, square)] + number_text(row_of(wide, square) + 1)


def square_of(wide, high, text):
    letter = text[:1]
    number = number_of(text[1:])
    # The text without a sign has no number, so the letter is one sign from here on.
    if number is None or not 1 <= number <= high:
        return None
    column = COLUMNS.find(letter)
    if not 0 <= column < wide:
        return None
    return square_at(wide, column, number - 1)
