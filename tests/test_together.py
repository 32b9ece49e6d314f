import copy
import unittest
from fractions import Fraction
from functools import lru_cache
from itertools import combinations, product

from amongalike.together import found_out, guess_share, possible
from samples import (
    ALL_ALIKE, EXAMPLE, FIVE, FOUR_ROWS, MANY_ROWS, NO_TWO_ALIKE, ONE_ROW, ONE_VALUE, SHOWN_TABLES, SMALLEST, THREE,
    TWO, WIDEST, classes_told, first_way, last_way, made_table, stirred, ways_of,
)

# Each of the two ways leaves the first row two secrets; together they leave one.
SQUARE = ((TWO, TWO), ((0, 0), (0, 1), (1, 0), (1, 1)), (0, 1, 1, 1))
# Any two of the three ways leave the first row two secrets; all three leave one.
CORNER = ((TWO, TWO, TWO), ((0, 0, 0), (0, 0, 1), (0, 1, 0), (1, 0, 0)), (0, 1, 1, 1))
CORNER_WAYS = ((0, 1, 1), (1, 0, 1), (1, 1, 0))
SMALL_TABLES = [
    SMALLEST, EXAMPLE, ONE_ROW, ONE_VALUE, FOUR_ROWS, SQUARE, CORNER, ALL_ALIKE, NO_TWO_ALIKE,
    ((TWO, THREE), ((0, 0), (0, 1), (0, 2), (1, 0), (1, 1), (1, 2)), (0, 1, 2, 2, 0, 1)),
] + [made_table(seed, columns, rows) for seed in (1, 2) for columns in (2, 3) for rows in (4, 5, 6)]
# Some with fewer secrets, and so with more of them alike.
SMALL_TABLES += [(table[0], table[1], tuple(secret % 2 for secret in table[2])) for table in SMALL_TABLES[-12:]]


@lru_cache(maxsize=None)
def all_secrets(rows):
    return list(product(range(4), repeat=rows))


def shown_likewise(table, ways):
    """All secrets with which a table would be shown as this one, by each of the ways."""
    fitting = all_secrets(len(table[1]))
    for way in ways:
        for members in classes_told(table, way):
            counts = sorted(table[2][row] for row in members)
            fitting = [secrets for secrets in fitting if sorted(secrets[row] for row in members) == counts]
    return fitting


def possible_told(table, ways):
    fitting = shown_likewise(table, ways)
    return [tuple(sorted({secrets[row] for secrets in fitting})) for row in range(len(table[1]))]


def possible_for_all(table, ways):
    return [possible(table, ways, row) for row in range(len(table[1]))]


def chosen_ways(table, many, seed):
    numbers = stirred(seed)
    ways = ways_of(table)
    return tuple(ways[next(numbers) % len(ways)] for _ in range(many))


def samples_with_ways():
    for number, table in enumerate(SHOWN_TABLES):
        for many in (1, 2, 3):
            yield table, chosen_ways(table, many, 10 * number + many)


class Possible(unittest.TestCase):
    def test_no_ways(self):
        for table in SHOWN_TABLES:
            for row in range(len(table[1])):
                self.assertEqual(repr(possible(table, (), row)), "(0, 1, 2, 3)")

    def test_one_way(self):
        self.assertEqual(possible_for_all(FOUR_ROWS, ((0, 1),)), [(0, 1), (0, 1), (2, 3), (2, 3)])
        self.assertEqual(possible_for_all(FOUR_ROWS, ((0, 0),)), [(0,), (1,), (2,), (3,)])
        self.assertEqual(possible_for_all(FOUR_ROWS, ((1, 1),)), [(0, 1, 2, 3)] * 4)
        self.assertEqual(possible_for_all(ALL_ALIKE, ((0, 0),)), [(0, 1, 2)] * 5)

    def test_by_one_way_they_are_the_secrets_of_the_class(self):
        for table in SHOWN_TABLES:
            for way in ways_of(table):
                for members in classes_told(table, way):
                    told = tuple(sorted({table[2][row] for row in members}))
                    for row in (members[0], members[-1]):
                        self.assertEqual(repr(possible(table, (way,), row)), repr(told))

    def test_ways_that_only_together_find_a_row_out(self):
        self.assertEqual(possible(SQUARE, ((0, 1),), 0), (0, 1))
        self.assertEqual(possible(SQUARE, ((1, 0),), 0), (0, 1))
        self.assertEqual(possible(SQUARE, ((0, 1), (1, 0)), 0), (0,))
        for two in combinations(CORNER_WAYS, 2):
            self.assertEqual(possible(CORNER, two, 0), (0, 1))
        self.assertEqual(possible(CORNER, CORNER_WAYS, 0), (0,))

    def test_a_secret_that_each_way_leaves_may_not_be_left_by_all(self):
        table = ((TWO, TWO), ((0, 0), (0, 0), (0, 1), (1, 0)), (1, 1, 0, 0))
        self.assertEqual(possible_for_all(table, ((0, 1),)), [(0, 1), (0, 1), (0, 1), (0,)])
        self.assertEqual(possible_for_all(table, ((1, 0),)), [(0, 1), (0, 1), (0,), (0, 1)])
        self.assertEqual(possible_for_all(table, ((0, 1), (1, 0))), [(1,), (1,), (0,), (0,)])

    def test_all_secrets_of_small_tables_one_and_two_ways(self):
        for table in SMALL_TABLES:
            ways = ways_of(table)
            for told in [()] + [(way,) for way in ways[::3]] + list(combinations(ways, 2))[::7]:
                self.assertEqual(repr(possible_for_all(table, told)), repr(possible_told(table, told)))

    def test_all_secrets_of_small_tables_several_ways(self):
        less = 0
        for table in SMALL_TABLES:
            for seed in range(8):
                ways = chosen_ways(table, 2 + seed % 4, seed)
                told = possible_for_all(table, ways)
                self.assertEqual(repr(told), repr(possible_told(table, ways)))
                for row, secrets in enumerate(told):
                    singly = [set(possible(table, (way,), row)) for way in ways]
                    less += set(secrets) < set.intersection(*singly)
        self.assertGreater(less, 5)

    def test_they_are_secrets_that_rise(self):
        for table, ways in samples_with_ways():
            for row in range(0, len(table[1]), 3):
                told = possible(table, ways, row)
                self.assertIs(type(told), tuple)
                self.assertEqual(told, tuple(sorted(set(told) & {0, 1, 2, 3})))

    def test_the_rows_own_secret_is_possible(self):
        for table, ways in samples_with_ways():
            for row in range(len(table[1])):
                self.assertIn(table[2][row], possible(table, ways, row))

    def test_with_a_way_more_there_are_no_more(self):
        for table, ways in samples_with_ways():
            for row in range(0, len(table[1]), 2):
                before = {0, 1, 2, 3}
                for many in range(1, len(ways) + 1):
                    after = set(possible(table, ways[:many], row))
                    self.assertLessEqual(after, before)
                    before = after

    def test_with_a_coarser_way_there_are_no_fewer(self):
        for table, ways in samples_with_ways():
            coarser = tuple(min(number + 1, last) for number, last in zip(ways[0], last_way(table)))
            for row in range(0, len(table[1]), 2):
                fewer = possible(table, ways, row)
                more = possible(table, (coarser,) + ways[1:], row)
                self.assertLessEqual(set(fewer), set(more))

    def test_each_coarser_way_in_small_tables(self):
        for table in SMALL_TABLES:
            ways = ways_of(table)
            for way in ways:
                other = ways[(3 * ways.index(way) + 1) % len(ways)]
                fewer = possible_for_all(table, (way, other))
                for column in range(len(way)):
                    coarser = way[:column] + (way[column] + 1,) + way[column + 1:]
                    if coarser in ways:
                        more = possible_for_all(table, (coarser, other))
                        self.assertTrue(all(set(few) <= set(its) for few, its in zip(fewer, more)))

    def test_the_same_way_twice_and_any_order_tell_the_same(self):
        for table, ways in samples_with_ways():
            for row in range(0, len(table[1]), 4):
                told = possible(table, ways, row)
                self.assertEqual(possible(table, ways + ways, row), told)
                self.assertEqual(possible(table, ways + ways[:1], row), told)
                self.assertEqual(possible(table, tuple(reversed(ways)), row), told)

    def test_with_a_coarser_way_beside_it_nothing_more_is_told(self):
        for table in SMALL_TABLES:
            for way in ways_of(table):
                self.assertEqual(possible_for_all(table, (way, last_way(table))), possible_for_all(table, (way,)))

    def test_what_no_ways_tell_is_not_what_the_last_way_tells(self):
        self.assertEqual(possible(ALL_ALIKE, (), 0), (0, 1, 2, 3))
        self.assertEqual(possible(ALL_ALIKE, (last_way(ALL_ALIKE),), 0), (0, 1, 2))

    def test_tables_of_many_rows(self):
        square = ((FIVE, FIVE), tuple(product(range(5), repeat=2)), tuple(row * row % 4 for row in range(25)))
        for table in (square, MANY_ROWS):
            last = last_way(table)
            for row in range(0, len(table[1]), 6):
                one = possible(table, ((0, last[1]),), row)
                both = possible(table, ((0, last[1]), (last[0], 0)), row)
                self.assertLessEqual(set(both), set(one))
                self.assertIn(table[2][row], both)


class FoundOut(unittest.TestCase):
    def test_no_row(self):
        for table in SHOWN_TABLES:
            self.assertEqual(found_out(table, ()), ())
        self.assertEqual(found_out(FOUR_ROWS, ((0, 1),)), ())
        self.assertEqual(found_out(FOUR_ROWS, ((1, 1),)), ())
        self.assertEqual(found_out(ALL_ALIKE, ((0, 0), (1, 1))), ())

    def test_some_rows(self):
        self.assertEqual(found_out(SQUARE, ((0, 1),)), (2, 3))
        self.assertEqual(found_out(SQUARE, ((1, 0),)), (1, 3))
        self.assertEqual(found_out(CORNER, CORNER_WAYS[:2]), (2, 3))
        self.assertEqual(found_out(NO_TWO_ALIKE, ((2,),)), (4,))

    def test_all_rows(self):
        self.assertEqual(found_out(SQUARE, ((0, 1), (1, 0))), (0, 1, 2, 3))
        self.assertEqual(found_out(CORNER, CORNER_WAYS), (0, 1, 2, 3))
        self.assertEqual(found_out(FOUR_ROWS, ((0, 0),)), (0, 1, 2, 3))
        self.assertEqual(found_out(ONE_ROW, ((2, 1),)), (0,))
        # One secret for all: nobody is hidden, however coarse it is shown.
        alike = (WIDEST[0], WIDEST[1], (2,) * 8)
        self.assertEqual(found_out(alike, (last_way(alike),)), tuple(range(8)))

    def test_all_secrets_of_small_tables(self):
        some = 0
        for table in SMALL_TABLES:
            for seed in range(8):
                ways = chosen_ways(table, seed % 4, seed)
                told = tuple(row for row, secrets in enumerate(possible_told(table, ways)) if len(secrets) == 1)
                self.assertEqual(repr(found_out(table, ways)), repr(told))
                some += 0 < len(told) < len(table[1])
        self.assertGreater(some, 10)

    def test_they_are_the_rows_with_one_possible_secret(self):
        for table, ways in samples_with_ways():
            told = tuple(row for row in range(len(table[1])) if len(possible(table, ways, row)) == 1)
            self.assertEqual(found_out(table, ways), told)

    def test_with_a_way_more_no_fewer_are_found_out(self):
        for table, ways in samples_with_ways():
            self.assertLessEqual(set(found_out(table, ways[:-1])), set(found_out(table, ways)))


class GuessShare(unittest.TestCase):
    def test_ordinary_ones(self):
        self.assertEqual([guess_share(ALL_ALIKE, (0, 0), row) for row in range(5)],
                         [(2, 5), (2, 5), (2, 5), (2, 5), (1, 5)])
        self.assertEqual(guess_share(FOUR_ROWS, (0, 1), 3), (1, 2))
        self.assertEqual(guess_share(FOUR_ROWS, (1, 1), 3), (1, 4))

    def test_lowest_terms(self):
        table = ((TWO,), ((0,),) * 12, (0, 0, 0, 0, 0, 0, 1, 1, 1, 1, 2, 2))
        self.assertEqual([guess_share(table, (0,), row) for row in (0, 6, 10)], [(1, 2), (1, 3), (1, 6)])
        table = ((TWO,), ((0,),) * 6, (3, 3, 3, 3, 1, 1))
        self.assertEqual([guess_share(table, (0,), row) for row in (0, 5)], [(2, 3), (1, 3)])

    def test_all_of_a_class_have_the_secret(self):
        for table in SHOWN_TABLES:
            alike = (table[0], table[1], (3,) * len(table[1]))
            for way in ways_of(table):
                self.assertEqual(guess_share(alike, way, len(table[1]) - 1), (1, 1))
        self.assertEqual(guess_share(SQUARE, (0, 1), 2), (1, 1))
        self.assertEqual(guess_share(ONE_ROW, first_way(ONE_ROW), 0), (1, 1))

    def test_as_the_document_says(self):
        for table in SHOWN_TABLES:
            for way in ways_of(table):
                for members in classes_told(table, way):
                    secrets = [table[2][row] for row in members]
                    for row in members:
                        share = Fraction(secrets.count(table[2][row]), len(members))
                        told = guess_share(table, way, row)
                        self.assertEqual(repr(told), repr((share.numerator, share.denominator)))


class AskedAgain(unittest.TestCase):
    def told(self, table, ways):
        return possible_for_all(table, ways), found_out(table, ways), guess_share(table, ways[0], 0)

    def test_nothing_is_changed_and_the_same_is_told(self):
        for table in SMALL_TABLES + [MANY_ROWS]:
            ways = chosen_ways(table, 3, 5)
            before = copy.deepcopy((table, ways))
            self.assertEqual(repr(self.told(table, ways)), repr(self.told(table, ways)))
            self.assertEqual(repr((table, ways)), repr(before))


if __name__ == "__main__":
    unittest.main()
