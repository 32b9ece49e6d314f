"""The table of which a text is the writing."""

from amongalike.errors import NoText
from amongalike.tables import is_table
from amongalike.writing import written

DIGITS = "0123456789"


def numbers_of(text):
    # A sign that is no digit becomes -1, which stands in no table.
    return tuple([DIGITS.find(sign) for sign in text])


def ladder_of(word):
    return tuple([numbers_of(step) for step in word.split("/")])


def row_of(word):
    return numbers_of(word.partition(":")[0])


def secret_of(word):
    # Of no sign, or of several, a wrong number may come: it isn't written as they are.
    return DIGITS.find(word.partition(":")[2])


def table_of(words):
    place = words.index(";")
    row_words = words[place + 1:]
    ladders = tuple([ladder_of(word) for word in words[:place]])
    rows = tuple([row_of(word) for word in row_words])
    secrets = tuple([secret_of(word) for word in row_words])
    return (ladders, rows, secrets)


def read(text):
    words = text.split(" ")
    if ";" not in words:
        raise NoText("no word of the text is a semicolon")
    table = table_of(words)
    # The words are read loosely; whether the text is the table's, its writing decides.
    if not is_table(table) or written(table) != text:
        raise NoText("the text is the writing of no table")
    return table
