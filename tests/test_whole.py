"""What holds over the whole program: tables of more than 8 rows, and tables with other orders and names."""

import unittest
from fractions import Fraction
from functools import lru_cache
from itertools import permutations

from amongalike.changing import in_order, secrets_renamed, swapped, with_row, without_row
from amongalike.errors import NoText
from amongalike.grouping import best_grouping, group_loss, group_way
from amongalike.least import greatest_unsafe, is_paper, least_loss, least_safe
from amongalike.leaving import best_with, left_out, loss_with
from amongalike.reading import read
from amongalike.showing import all_ways, classes, fewest_alike, is_coarser, is_mixed, is_safe, loss, shown
from amongalike.tables import is_table, is_way
from amongalike.together import found_out, guess_share, possible
from amongalike.writing import written
from samples import (
    ALL_ALIKE, EXAMPLE, FOUR_ROWS, MADE, NO_TWO_ALIKE, ONE_ROW, ONE_VALUE, TABLES, WIDEST, classes_told, first_way,
    last_way, loss_told, made_table, rows_told, stirred, together, ways_of,
)

SAMPLES = TABLES + [FOUR_ROWS, ONE_ROW, ALL_ALIKE, NO_TWO_ALIKE, ONE_VALUE] + MADE[::3] + [
    made_table(9, columns, rows) for columns in (2, 3) for rows in (9, 11)]
EIGHT_ROWS = [table for table in SAMPLES if len(table[1]) == 8]


def some_ways(table):
    ways = ways_of(table)
    return (ways[len(ways) // 3], ways[2 * len(ways) // 3])


def some_groups(table):
    rows = len(table[1])
    return [tuple(range(rows)), (rows - 1,), tuple(range(0, rows, 2)), tuple(range(rows // 2 + 1))]


@lru_cache(maxsize=None)
def of_ways(table):
    """All that is told of ways alone, without any row's number or shown value."""
    told = [all_ways(table)]
    for many in (0, 1, 2, 3, 5, 12):
        told.append((least_safe(table, many), greatest_unsafe(table, many), least_loss(table, many)))
        told += [best_with(table, many, most) for most in (0, 1, 2, 12)]
        for way in ways_of(table):
            told.append((is_safe(table, way, many), is_mixed(table, way, many), loss_with(table, way, many)))
    told += [(fewest_alike(table, way), loss(table, way)) for way in ways_of(table)]
    return told


@lru_cache(maxsize=None)
def grouping_losses(table):
    told = [best_grouping(table, many) for many in (1, 2, 3, 4, 6, 12)]
    return [pair and pair[0] for pair in told]


@lru_cache(maxsize=None)
def of_rows(table, row):
    """All that is told of one row but how it is shown."""
    ways = some_ways(table)
    shares = [guess_share(table, way, row) for way in ways_of(table)]
    told = [possible(table, ways[:many], row) for many in range(3)]
    gone = [row in left_out(table, way, 2) for way in ways_of(table)]
    return shares, told, gone, [row in found_out(table, ways[:many]) for many in (1, 2)]


def turned(order, rows):
    """The places, rising, to which rows come by an order."""
    return tuple(sorted(order.index(row) for row in rows))


def orders_of(table):
    rows = list(range(len(table[1])))
    numbers = stirred(len(rows))
    stir = sorted(rows, key=lambda row: next(numbers))
    return [tuple(reversed(rows)), tuple(rows[1:] + rows[:1]), tuple(stir)]


def values_renamed(table, column, names):
    """The table with the values of a column named otherwise, and their steps told by the new least values."""
    steps = []
    for step in table[0][column]:
        pairs = {(names[a], names[b]) for a, b in together(step)}
        steps.append(tuple(min(b for a, b in pairs if a == value) for value in range(len(step))))
    ladders = table[0][:column] + (tuple(steps),) + table[0][column + 1:]
    rows = tuple(row[:column] + (names[row[column]],) + row[column + 1:] for row in table[1])
    return (ladders, rows, table[2])


def exchanged(parts, one, other):
    places = list(range(len(parts)))
    places[one], places[other] = other, one
    return tuple(parts[place] for place in places)


class TablesOfMoreRows(unittest.TestCase):
    def setUp(self):
        self.assertGreater(len(EIGHT_ROWS), 3)

    def test_a_ninth_row_makes_it_no_table_to_be_written(self):
        for table in EIGHT_ROWS:
            self.assertIs(is_table(table), True)
            self.assertEqual(read(written(table)), table)
            self.assertIs(is_table(with_row(table, table[1][3], 2)), False)
            with self.assertRaises(NoText):
                read(written(table) + " " + written(table).split(" ")[-1])

    def test_it_is_shown(self):
        for table in EIGHT_ROWS:
            nine = with_row(table, table[1][3], 2)
            self.assertEqual(all_ways(nine), all_ways(table))
            for way in ways_of(nine):
                self.assertIs(is_way(nine, way), True)
                self.assertEqual(shown(nine, way), rows_told(nine, way))
                self.assertEqual(shown(nine, way)[:8], shown(table, way))
                self.assertEqual(classes(nine, way), classes_told(nine, way))
                self.assertEqual(fewest_alike(nine, way), min(len(members) for members in classes_told(nine, way)))
                self.assertEqual(loss(nine, way), loss_told(nine, way))
                for many in (1, 2, 4, 9, 10):
                    sizes = [len(members) for members in classes_told(nine, way)]
                    secrets = [len({nine[2][row] for row in members}) for members in classes_told(nine, way)]
                    self.assertIs(is_safe(nine, way, many), min(sizes) >= many)
                    self.assertIs(is_mixed(nine, way, many), min(secrets) >= many)

    def test_least_losses_and_papers(self):
        for table in EIGHT_ROWS:
            nine = with_row(table, table[1][3], 2)
            last = last_way(nine)
            self.assertIs(is_paper(nine, 2, (least_safe(nine, 2), greatest_unsafe(nine, 2))), True)
            self.assertIsNone(least_loss(nine, 10))
            self.assertIs(is_safe(nine, least_loss(nine, 9)[1], 9), True)
            self.assertTrue(all(way == last or is_coarser(last, way) for way in least_safe(nine, 9)))
            self.assertEqual(greatest_unsafe(nine, 10), (last,))

    def test_rows_left_out_and_groups(self):
        for table in EIGHT_ROWS:
            nine = with_row(table, table[1][3], 2)
            self.assertEqual(left_out(nine, last_way(nine), 10), tuple(range(9)))
            self.assertEqual(left_out(nine, last_way(nine), 9), ())
            self.assertEqual(loss_with(nine, first_way(nine), 10), loss_told(nine, last_way(nine)))
            self.assertEqual(best_with(nine, 2, 0), least_loss(nine, 2))
            self.assertEqual(group_way(nine, (3, 8)), first_way(nine))
            self.assertEqual(group_loss(nine, (3, 8)), 0)
            self.assertEqual(best_grouping(nine, 9)[1], (tuple(range(9)),))
            self.assertEqual(best_grouping(nine, 1)[1], tuple((row,) for row in range(9)))
            self.assertIsNone(best_grouping(nine, 10))

    def test_what_is_told_together_and_changes(self):
        for table in EIGHT_ROWS:
            nine = with_row(table, table[1][3], 2)
            columns = len(nine[0])
            alike = [nine[2][row] for row in range(9) if nine[1][row] == nine[1][8]]
            share = Fraction(alike.count(2), len(alike))
            self.assertEqual(possible(nine, (), 8), (0, 1, 2, 3))
            self.assertEqual(possible(nine, (last_way(nine),), 8), tuple(sorted(set(nine[2]))))
            self.assertEqual(possible(nine, (first_way(nine),), 8), tuple(sorted(set(alike))))
            self.assertEqual(8 in found_out(nine, (first_way(nine),)), len(set(alike)) == 1)
            self.assertEqual(guess_share(nine, first_way(nine), 8), (share.numerator, share.denominator))
            self.assertEqual(without_row(nine, 8), table)
            order = (8,) + tuple(range(8))
            self.assertEqual(without_row(in_order(nine, order), 0), table)
            self.assertEqual(swapped(swapped(nine, 0, columns - 1), 0, columns - 1), nine)
            self.assertEqual(secrets_renamed(secrets_renamed(nine, (1, 2, 3, 0)), (3, 0, 1, 2)), nine)


class RowsInAnotherOrder(unittest.TestCase):
    def test_what_is_told_of_ways_stays(self):
        for table in SAMPLES:
            for order in orders_of(table):
                self.assertEqual(of_ways(in_order(table, order)), of_ways(table))

    def test_losses_of_groupings_stay(self):
        for table in SAMPLES:
            losses = grouping_losses(table)
            for order in orders_of(table):
                self.assertEqual(grouping_losses(in_order(table, order)), losses)

    def test_what_is_told_of_rows_goes_along(self):
        for table in SAMPLES:
            told = [of_rows(table, row) for row in range(len(table[1]))]
            for order in orders_of(table):
                changed = in_order(table, order)
                self.assertEqual([of_rows(changed, place) for place in range(len(order))],
                                 [told[number] for number in order])

    def test_what_is_shown_classes_and_groups_go_along(self):
        for table in SAMPLES:
            for order in orders_of(table):
                changed = in_order(table, order)
                for way in ways_of(table):
                    rows = shown(table, way)
                    self.assertEqual(shown(changed, way), tuple(rows[number] for number in order))
                    moved = sorted(turned(order, members) for members in classes(table, way))
                    self.assertEqual(classes(changed, way), tuple(moved))
                    self.assertEqual(left_out(changed, way, 3), turned(order, left_out(table, way, 3)))
                for group in some_groups(table):
                    self.assertEqual(group_way(changed, turned(order, group)), group_way(table, group))
                    self.assertEqual(group_loss(changed, turned(order, group)), group_loss(table, group))
                for many in range(3):
                    ways = some_ways(table)[:many]
                    self.assertEqual(found_out(changed, ways), turned(order, found_out(table, ways)))


class ColumnsSwapped(unittest.TestCase):
    def pairs(self):
        for table in SAMPLES:
            for one in range(len(table[0])):
                for other in range(one):
                    yield table, one, other

    def test_losses_stay(self):
        for table, one, other in self.pairs():
            changed = swapped(table, one, other)
            for many in (0, 1, 2, 3, 5, 12):
                before, after = least_loss(table, many), least_loss(changed, many)
                self.assertEqual(before and before[0], after and after[0])
                for most in (0, 1, 2, 12):
                    before, after = best_with(table, many, most), best_with(changed, many, most)
                    self.assertEqual(before and before[0], after and after[0])
            self.assertEqual(grouping_losses(changed), grouping_losses(table))

    def test_ways_are_swapped_along(self):
        for table, one, other in self.pairs():
            changed = swapped(table, one, other)
            for way in ways_of(table):
                its = exchanged(way, one, other)
                self.assertEqual(shown(changed, its), tuple(exchanged(row, one, other) for row in shown(table, way)))
                self.assertEqual(classes(changed, its), classes(table, way))
                self.assertEqual(loss(changed, its), loss(table, way))
                for many in (1, 2, 3):
                    self.assertEqual(loss_with(changed, its, many), loss_with(table, way, many))
            for many in (1, 2, 3):
                for told in (least_safe, greatest_unsafe):
                    ways = sorted(exchanged(way, one, other) for way in told(table, many))
                    self.assertEqual(told(changed, many), tuple(ways))

    def test_possible_secrets_and_groups_go_along(self):
        for table, one, other in self.pairs():
            changed = swapped(table, one, other)
            ways = some_ways(table)
            its = tuple(exchanged(way, one, other) for way in ways)
            for row in range(len(table[1])):
                self.assertEqual(possible(changed, its, row), possible(table, ways, row))
                self.assertEqual(guess_share(changed, its[0], row), guess_share(table, ways[0], row))
            for group in some_groups(table):
                self.assertEqual(group_way(changed, group), exchanged(group_way(table, group), one, other))
                self.assertEqual(group_loss(changed, group), group_loss(table, group))


class SecretsNamedOtherwise(unittest.TestCase):
    def test_what_is_told_of_ways_and_groups_stays(self):
        for table in SAMPLES:
            changed = secrets_renamed(table, (2, 0, 3, 1))
            self.assertEqual(of_ways(changed), of_ways(table))
            for many in (1, 2, 3):
                self.assertEqual(best_grouping(changed, many), best_grouping(table, many))

    def test_possible_secrets_go_along(self):
        for number, table in enumerate(SAMPLES):
            for names in list(permutations(range(4)))[number % 5::5]:
                changed = secrets_renamed(table, names)
                for many in range(3):
                    ways = some_ways(table)[:many]
                    self.assertEqual(found_out(changed, ways), found_out(table, ways))
                    for row in range(len(table[1])):
                        told = sorted(names[secret] for secret in possible(table, ways, row))
                        self.assertEqual(possible(changed, ways, row), tuple(told))
                for row in range(len(table[1])):
                    for way in some_ways(table):
                        self.assertEqual(guess_share(changed, way, row), guess_share(table, way, row))


class ValuesNamedOtherwise(unittest.TestCase):
    def renamed(self):
        for table in SAMPLES:
            for column, ladder in enumerate(table[0]):
                values = list(range(len(ladder[0])))
                for names in (tuple(reversed(values)), tuple(values[1:] + values[:1])):
                    yield table, values_renamed(table, column, names)

    def test_they_are_tables(self):
        self.assertEqual(values_renamed(EXAMPLE, 1, (2, 1, 0))[0][1], ((0, 1, 2), (0, 1, 1), (0, 0, 0)))
        for table, changed in self.renamed():
            self.assertIs(is_table(changed), is_table(table))

    def test_what_is_told_of_ways_stays(self):
        for table, changed in self.renamed():
            self.assertEqual(of_ways(changed), of_ways(table))

    def test_classes_groups_and_possible_secrets_stay(self):
        for table, changed in self.renamed():
            for way in ways_of(table):
                self.assertEqual(classes(changed, way), classes(table, way))
            for group in some_groups(table):
                self.assertEqual(group_way(changed, group), group_way(table, group))
                self.assertEqual(group_loss(changed, group), group_loss(table, group))
            for row in range(len(table[1])):
                self.assertEqual(of_rows(changed, row), of_rows(table, row))

    def test_losses_of_groupings_stay(self):
        for table, changed in self.renamed():
            self.assertEqual(grouping_losses(changed), grouping_losses(table))


class TextsOfChangedTables(unittest.TestCase):
    def test_a_changed_table_and_its_text_tell_one_another(self):
        for table in SAMPLES:
            if len(table[1]) <= 8:
                for changed in (in_order(table, orders_of(table)[0]), swapped(table, 0, len(table[0]) - 1),
                                secrets_renamed(table, (3, 1, 0, 2))):
                    self.assertEqual(read(written(changed)), changed)
        self.assertEqual(written(swapped(EXAMPLE, 0, 1)), "012/002/000 01/00 ; 20:1 11:0")
        self.assertEqual(written(without_row(EXAMPLE, 0)), "01/00 012/002/000 ; 11:0")
        self.assertEqual(read(written(without_row(WIDEST, 7))), without_row(WIDEST, 7))


if __name__ == "__main__":
    unittest.main()
