import unittest
from itertools import product

from amongalike.writing import written
from samples import EXAMPLE, LADDERS, ONE, SMALLEST, TABLES, THREE, TWO, WIDEST


class Writing(unittest.TestCase):
    def test_the_example_of_the_document(self):
        self.assertEqual(written(EXAMPLE), "01/00 012/002/000 ; 02:1 11:0")

    def test_the_smallest_table(self):
        self.assertEqual(written(SMALLEST), "0 ; 0:0")

    def test_the_widest_table(self):
        self.assertEqual(
            written(WIDEST),
            "01234/01034/01031/00000 01/00 012/002/000 ; "
            "000:3 412:2 301:1 212:0 100:0 412:1 010:2 201:3")

    def test_each_ladder(self):
        for ladder in LADDERS:
            expected = "/".join("".join("01234"[number] for number in step) for step in ladder)
            self.assertEqual(written(((ladder,), ((0,),), (3,))), expected + " ; 0:3")

    def test_each_value_and_secret(self):
        for first, second, secret in product(range(2), range(3), range(4)):
            table = ((TWO, THREE), ((first, second),), (secret,))
            self.assertEqual(written(table), f"01/00 012/002/000 ; {first}{second}:{secret}")

    def test_rows_and_secrets_keep_their_order(self):
        self.assertEqual(written(((TWO,), ((1,), (0,), (1,)), (2, 3, 0))), "01/00 ; 1:2 0:3 1:0")

    def test_ladders_keep_their_order(self):
        self.assertEqual(written(((ONE, TWO), ((0, 1),), (2,))), "0 01/00 ; 01:2")
        self.assertEqual(written(((TWO, ONE), ((1, 0),), (2,))), "01/00 0 ; 10:2")

    def test_one_blank_between_each_two_words(self):
        for table in TABLES:
            words = written(table).split(" ")
            self.assertEqual(len(words), len(table[0]) + 1 + len(table[1]))
            self.assertEqual(words.index(";"), len(table[0]))
            self.assertNotIn("", words)

    def test_unlike_tables_have_unlike_texts(self):
        tables = [
            (ladders, rows, secrets)
            for ladders in product((ONE, TWO, THREE), repeat=2)
            for rows in product(product(*(range(len(ladder[0])) for ladder in ladders)), repeat=2)
            for secrets in product(range(4), repeat=2)
        ]
        self.assertEqual(len(set(tables)), len(tables))
        self.assertEqual(len({written(table) for table in tables}), len(tables))

    def test_a_text_is_told_again_the_same(self):
        for table in TABLES:
            before = repr(table)
            text = written(table)
            self.assertIs(type(text), str)
            self.assertEqual(written(table), text)
            self.assertEqual(repr(table), before)


if __name__ == "__main__":
    unittest.main()
