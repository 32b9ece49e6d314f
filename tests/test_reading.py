import re
import unittest
from itertools import product

from amongalike.errors import NoText
from amongalike.reading import read
from amongalike.tables import is_table
from amongalike.writing import written
from samples import EXAMPLE, LADDERS, MADE, ONE, SMALLEST, TABLES, THREE, TWO, WIDEST, made_table, with_part

SIGNS = [chr(number) for number in range(ord(" "), ord("~") + 1)]
LADDER_BY_TEXT = {"/".join("".join(map(str, step)) for step in ladder): ladder for ladder in LADDERS}


def table_told(text):
    """The table of a text, or None, by a form of the whole text and a list of all ladders."""
    form = re.fullmatch(r"([0-9/]+(?: [0-9/]+){0,2}) ;((?: [0-4]{1,3}:[0-3]){1,8})", text)
    if not form or any(word not in LADDER_BY_TEXT for word in form[1].split(" ")):
        return None
    ladders = tuple(LADDER_BY_TEXT[word] for word in form[1].split(" "))
    words = form[2][1:].split(" ")
    rows = tuple(tuple(int(sign) for sign in word[:-2]) for word in words)
    for row in rows:
        if len(row) != len(ladders) or any(value >= len(ladder[0]) for value, ladder in zip(row, ladders)):
            return None
    return (ladders, rows, tuple(int(word[-1]) for word in words))


def changed_by_a_sign(text):
    for place in range(len(text) + 1):
        for sign in SIGNS:
            yield text[:place] + sign + text[place:]
            yield text[:place] + sign + text[place + 1:]
        yield text[:place] + text[place + 1:]


def changed_by_a_word(text):
    words = text.split(" ")
    for place in range(len(words)):
        yield " ".join(words[:place] + words[place + 1:])
        yield " ".join(words[:place + 1] + words[place:])
        for other in range(place):
            exchanged = list(words)
            exchanged[place], exchanged[other] = words[other], words[place]
            yield " ".join(exchanged)
    for place, word in product(range(len(words) + 1), words + ["", ";", "0", "01/00", "0:0", "00:0", "01:01"]):
        yield " ".join(words[:place] + [word] + words[place:])


class Reading(unittest.TestCase):
    def refused(self, text):
        try:
            table = read(text)
        except NoText:
            return
        self.fail(f"{table!r} was read of {text!r}")

    def as_told(self, text):
        expected = table_told(text)
        if expected is None:
            self.refused(text)
        elif repr(read(text)) != repr(expected):
            self.fail(f"{read(text)!r} was read of {text!r}")

    def test_the_example_of_the_document(self):
        self.assertEqual(read("01/00 012/002/000 ; 02:1 11:0"), EXAMPLE)

    def test_the_smallest_table(self):
        self.assertEqual(read("0 ; 0:0"), SMALLEST)

    def test_a_table_and_its_text_tell_one_another(self):
        for table in TABLES + MADE:
            # The writings differ where a list, a truth or a text stands in the place of a tuple or a number.
            self.assertEqual(repr(read(written(table))), repr(table))
            self.assertIs(is_table(read(written(table))), True)

    def test_each_ladder(self):
        for text, ladder in LADDER_BY_TEXT.items():
            self.assertEqual(read(f"{text} ; 0:2"), ((ladder,), ((0,),), (2,)))

    def test_each_value_and_secret(self):
        for first, second, secret in product(range(10), repeat=3):
            text = f"01/00 012/002/000 ; {first}{second}:{secret}"
            if first < 2 and second < 3 and secret < 4:
                self.assertEqual(read(text), ((TWO, THREE), ((first, second),), (secret,)))
            else:
                self.refused(text)

    def test_all_short_texts_of_few_signs(self):
        for many in range(8):
            for signs in product("01:; /", repeat=many):
                text = "".join(signs)
                if text in ("0 ; 0:0", "0 ; 0:1"):
                    self.assertEqual(read(text), ((ONE,), ((0,),), (int(text[-1]),)))
                else:
                    self.refused(text)

    def test_all_rows_of_few_words(self):
        words = ["", ";", "0", "00", "01", "01/00", "0:0", "1:1", "01:2", "0/0"]
        for many in range(6):
            for chosen in product(words, repeat=many):
                self.as_told(" ".join(chosen))

    def test_a_sign_otherwise_more_or_less(self):
        for table in (EXAMPLE, SMALLEST, WIDEST, made_table(1, 3, 4)):
            for text in changed_by_a_sign(written(table)):
                self.as_told(text)

    def test_signs_that_spoil_each_text(self):
        text = written(EXAMPLE)
        for place in range(len(text) + 1):
            for sign in set(SIGNS) - set("0123456789"):
                self.refused(text[:place] + sign + text[place:])

    def test_a_blank_more_or_less(self):
        for table in TABLES:
            text = written(table)
            for place in range(len(text) + 1):
                self.refused(text[:place] + " " + text[place:])
                if text[place:place + 1] == " ":
                    self.refused(text[:place] + text[place + 1:])
            for other in (text + "  ", "  " + text, text.replace(" ", "  "), text.replace(" ", "")):
                self.refused(other)

    def test_a_word_more_less_twice_or_exchanged(self):
        for table in TABLES + MADE[:20]:
            for text in changed_by_a_word(written(table)):
                self.as_told(text)

    def test_words_that_spoil_each_text(self):
        for text in ("01/00 012/002/000 02:1 11:0", "01/00 012/002/000 ; ; 02:1 11:0", "01/00 012/002/000 ;",
                     "; 02:1 11:0", "01/00 ; 02:1 11:0", "01/00 012/002/000 01/00 ; 02:1 11:0",
                     "01/00 ; 012/002/000 02:1 11:0", "01/00 012/002/000 02:1 ; 11:0", "02:1 11:0 ; 01/00 012/002/000",
                     "01/00 012/002/000 ; 02:1 11:0 ;", "01/00 012/002/000 ; 02:1 ; 11:0",
                     "012/002/000 01/00 ; 02:1 11:0"):
            self.refused(text)

    def test_leading_noughts(self):
        for text in ("01/00 ; 0:01", "01/00 ; 00:1", "01/00 ; 01:1", "01/00 ; 0:00", "001/00 ; 0:1", "01/000 ; 0:1",
                     "00/00 ; 0:1", "0 ; 0:00", "0 ; 00:0", "00 ; 0:0"):
            self.refused(text)

    def test_signs_of_numbers(self):
        for text in ("0 ; 0:+1", "0 ; 0:-0", "0 ; +0:1", "0 ; -0:1", "0 ; 0:1_0", "0 ; 0:1.0", "+0 ; 0:1", "0 ; 0:0x1",
                     "0 ; 0:True", "0 ; 0:None", "0 ; a:0", "a ; 0:0"):
            self.refused(text)

    def test_texts_of_no_words(self):
        for text in ("", " ", "  ", ";", " ;", "; ", " ; ", ":", "/", "; :", "/ ; :", " ; 0:0", "0 ; ", "0 ;", "0 ; :0",
                     "0 ; 0:", "0 ; 0", "0 ; :", "0/ ; 0:0", "/0 ; 0:0", "0 ; 0:0:0", "0 ; 0::0", "0;0:0", "0 : 0;0"):
            self.refused(text)

    def test_texts_of_things_that_are_no_tables(self):
        six = (tuple(range(6)), (0,) * 6)
        five_steps = ((0, 1, 2, 3, 4), (0, 0, 2, 3, 4), (0, 0, 0, 3, 4), (0, 0, 0, 0, 4), (0, 0, 0, 0, 0))
        things = [
            ((six,), ((0,),), (0,)), ((six,), ((5,),), (0,)), ((five_steps,), ((0,),), (0,)),
            ((TWO,) * 4, ((0,) * 4,), (0,)), ((TWO,), ((0,),) * 9, (0,) * 9), ((TWO,), (), ()), ((), ((),), (0,)),
            ((), (), ()), ((TWO,), ((2,),), (0,)), ((TWO,), ((0,),), (4,)), ((TWO,), ((0,),), (10,)),
            ((TWO,), ((-1,),), (0,)), ((TWO,), ((0,),), (-1,)), ((TWO,), ((10,),), (0,)),
            ((TWO, TWO), ((0, 0), (0,)), (0, 0)), ((TWO, TWO), ((0, 0), (0, 0, 0)), (0, 0)), ((TWO,), ((),), (0,)),
            ((((0, 1),),), ((0,),), (0,)), ((((0, 0),),), ((0,),), (0,)), ((((0, 1), (0, 1)),), ((0,),), (0,)),
            ((((0, 1), (1, 1)),), ((0,),), (0,)), ((((0, 1, 2), (0, 0)),), ((0,),), (0,)),
            ((((0, 1, 2), (0, 0, 2), (0, 1, 1), (0, 0, 0)),), ((0,),), (0,)), ((((),),), ((0,),), (0,)),
        ]
        for thing in things:
            self.assertIs(is_table(thing), False)
            self.refused(written(thing))

    def test_no_more_than_eight_rows(self):
        for many in range(1, 20):
            text = "01/00 ;" + " 1:3" * many
            if many <= 8:
                self.assertEqual(read(text), ((TWO,), ((1,),) * many, (3,) * many))
            else:
                self.refused(text)

    def test_long_texts(self):
        for text in ("0" * 5000, "0 ; 0:" + "0" * 5000, "0 ; " + "0" * 5000 + ":0", "/" * 5000, "0/" * 5000, " " * 5000,
                     "; " * 5000, "0 ;" + " 0:0" * 5000, "0 " * 5000 + "; 0:0"):
            self.refused(text)

    def test_the_same_is_told_again(self):
        for table in TABLES:
            self.assertEqual(repr(read(written(table))), repr(read(written(table))))
        for text in ("", "0 ; 0:4"):
            self.refused(text)
            self.refused(text)

    def test_one_number_otherwise_is_another_table(self):
        self.assertEqual(read("01/00 012/002/000 ; 02:2 11:0"), with_part(EXAMPLE, (2, 0), 2))
        self.assertEqual(read("01/00 012/002/000 ; 12:1 11:0"), with_part(EXAMPLE, (1, 0, 0), 1))


if __name__ == "__main__":
    unittest.main()
