import copy
import unittest
from itertools import permutations

from amongalike.changing import in_order, secrets_renamed, swapped, with_row, without_row
from amongalike.tables import is_table
from samples import EXAMPLE, FOUR_ROWS, MANY_ROWS, NO_TWO_ALIKE, ONE, SHOWN_TABLES, SMALLEST, THREE, TWO, WIDEST

PAIR = ((THREE, TWO), ((2, 0), (1, 1)), (3, 1))
TRIPLE = ((TWO, THREE, ONE), ((0, 2, 0), (1, 1, 0), (0, 0, 0)), (1, 0, 3))


def orders_of(table):
    rows = list(range(len(table[1])))
    return [tuple(rows), tuple(reversed(rows)), tuple(rows[1:] + rows[:1]), tuple(rows[-1:] + rows[:-1]),
            tuple(sorted(rows, key=lambda row: (row % 3, row)))]


def back_again(order):
    return tuple(order.index(number) for number in range(len(order)))


class InOrder(unittest.TestCase):
    def test_ordinary_ones(self):
        self.assertEqual(in_order(PAIR, (1, 0)), ((THREE, TWO), ((1, 1), (2, 0)), (1, 3)))
        self.assertEqual(in_order(TRIPLE, (2, 0, 1)), (TRIPLE[0], ((0, 0, 0), (0, 2, 0), (1, 1, 0)), (3, 1, 0)))
        self.assertEqual(in_order(TRIPLE, (1, 2, 0)), (TRIPLE[0], ((1, 1, 0), (0, 0, 0), (0, 2, 0)), (0, 3, 1)))

    def test_the_same_order(self):
        for table in SHOWN_TABLES:
            self.assertEqual(repr(in_order(table, tuple(range(len(table[1]))))), repr(table))

    def test_a_turned_one(self):
        for table in SHOWN_TABLES:
            turned = in_order(table, tuple(reversed(range(len(table[1])))))
            self.assertEqual(repr(turned), repr((table[0], table[1][::-1], table[2][::-1])))

    def test_each_row_keeps_its_secret(self):
        for table in SHOWN_TABLES:
            for order in orders_of(table):
                changed = in_order(table, order)
                self.assertEqual(changed[0], table[0])
                self.assertEqual(len(changed[1]), len(table[1]))
                for place, number in enumerate(order):
                    self.assertEqual((changed[1][place], changed[2][place]), (table[1][number], table[2][number]))

    def test_and_back_again(self):
        for table in SHOWN_TABLES:
            for order in orders_of(table):
                self.assertEqual(in_order(in_order(table, order), back_again(order)), table)


class WithRow(unittest.TestCase):
    def test_ordinary_ones(self):
        self.assertEqual(with_row(PAIR, (0, 1), 2), ((THREE, TWO), ((2, 0), (1, 1), (0, 1)), (3, 1, 2)))
        self.assertEqual(with_row(SMALLEST, (0,), 3), ((ONE,), ((0,), (0,)), (0, 3)))

    def test_it_is_the_last_one(self):
        for table in SHOWN_TABLES:
            for row, secret in zip(table[1], table[2]):
                self.assertEqual(repr(with_row(table, row, secret)),
                                 repr((table[0], table[1] + (row,), table[2] + (secret,))))

    def test_a_ninth_row(self):
        self.assertIs(is_table(WIDEST), True)
        nine = with_row(WIDEST, (0, 0, 1), 1)
        self.assertEqual((len(nine[1]), nine[1][8], len(nine[2]), nine[2][8]), (9, (0, 0, 1), 9, 1))
        self.assertIs(is_table(nine), False)
        self.assertEqual(with_row(nine, (4, 1, 2), 0)[1][8:], ((0, 0, 1), (4, 1, 2)))


class WithoutRow(unittest.TestCase):
    def test_ordinary_ones(self):
        self.assertEqual(without_row(PAIR, 0), ((THREE, TWO), ((1, 1),), (1,)))
        self.assertEqual(without_row(PAIR, 1), ((THREE, TWO), ((2, 0),), (3,)))
        self.assertEqual(without_row(TRIPLE, 1), (TRIPLE[0], ((0, 2, 0), (0, 0, 0)), (1, 3)))

    def test_all_others_stay(self):
        for table in SHOWN_TABLES:
            for number in range(len(table[1])):
                if len(table[1]) > 1:
                    rows = table[1][:number] + table[1][number + 1:]
                    secrets = table[2][:number] + table[2][number + 1:]
                    self.assertEqual(repr(without_row(table, number)), repr((table[0], rows, secrets)))

    def test_one_of_equal_rows(self):
        table = ((TWO,), ((1,), (1,), (1,)), (0, 1, 2))
        self.assertEqual([without_row(table, number)[2] for number in range(3)], [(1, 2), (0, 2), (0, 1)])

    def test_a_row_more_and_then_taken_away_again(self):
        for table in SHOWN_TABLES:
            more = with_row(table, table[1][0], 3 - table[2][0])
            self.assertEqual(repr(without_row(more, len(table[1]))), repr(table))


class Swapped(unittest.TestCase):
    def test_ordinary_ones(self):
        self.assertEqual(swapped(PAIR, 0, 1), ((TWO, THREE), ((0, 2), (1, 1)), (3, 1)))
        self.assertEqual(swapped(TRIPLE, 0, 2), ((ONE, THREE, TWO), ((0, 2, 0), (0, 1, 1), (0, 0, 0)), (1, 0, 3)))
        self.assertEqual(swapped(TRIPLE, 2, 1), ((TWO, ONE, THREE), ((0, 0, 2), (1, 0, 1), (0, 0, 0)), (1, 0, 3)))

    def test_one_and_the_same_column(self):
        for table in SHOWN_TABLES:
            for column in range(len(table[0])):
                self.assertEqual(repr(swapped(table, column, column)), repr(table))

    def test_twice(self):
        for table in SHOWN_TABLES:
            for one in range(len(table[0])):
                for other in range(len(table[0])):
                    self.assertEqual(repr(swapped(swapped(table, one, other), one, other)), repr(table))
                    self.assertEqual(repr(swapped(swapped(table, one, other), other, one)), repr(table))

    def test_both_change_places_and_all_else_stays(self):
        for table in SHOWN_TABLES:
            for one in range(len(table[0])):
                for other in range(len(table[0])):
                    places = list(range(len(table[0])))
                    places[one], places[other] = other, one
                    ladders = tuple(table[0][place] for place in places)
                    rows = tuple(tuple(row[place] for place in places) for row in table[1])
                    self.assertEqual(repr(swapped(table, one, other)), repr((ladders, rows, table[2])))


class SecretsRenamed(unittest.TestCase):
    def test_ordinary_ones(self):
        self.assertEqual(secrets_renamed(FOUR_ROWS, (2, 0, 3, 1)), FOUR_ROWS[:2] + ((2, 0, 3, 1),))
        self.assertEqual(secrets_renamed(PAIR, (2, 0, 3, 1)), PAIR[:2] + ((1, 0),))
        self.assertEqual(secrets_renamed(NO_TWO_ALIKE, (3, 2, 1, 0)), NO_TWO_ALIKE[:2] + ((3, 3, 2, 2, 2),))

    def test_the_same_names(self):
        for table in SHOWN_TABLES:
            self.assertEqual(repr(secrets_renamed(table, (0, 1, 2, 3))), repr(table))

    def test_all_names_and_back_again(self):
        for table in SHOWN_TABLES:
            for names in permutations(range(4)):
                changed = secrets_renamed(table, names)
                self.assertEqual(changed[:2], table[:2])
                self.assertEqual(changed[2], tuple(names[secret] for secret in table[2]))
                self.assertEqual(repr(secrets_renamed(changed, back_again(names))), repr(table))


class AskedAgain(unittest.TestCase):
    def told(self, table, order, row, names):
        last = len(table[0]) - 1
        return (in_order(table, order), with_row(table, row, 2), without_row(with_row(table, row, 2), 0),
                swapped(table, 0, last), secrets_renamed(table, names))

    def test_nothing_is_changed_and_the_same_is_told(self):
        for table in SHOWN_TABLES + [EXAMPLE, MANY_ROWS]:
            for order in orders_of(table):
                things = (table, order, table[1][-1], (1, 3, 0, 2))
                before = copy.deepcopy(things)
                self.assertEqual(repr(self.told(*things)), repr(self.told(*things)))
                self.assertEqual(repr(things), repr(before))

    def test_what_is_told_is_a_table_again(self):
        for table in SHOWN_TABLES:
            if len(table[1]) < 8:
                for order in orders_of(table):
                    for told in self.told(table, order, table[1][0], (3, 2, 1, 0)):
                        self.assertIs(is_table(told), True)


if __name__ == "__main__":
    unittest.main()
