import copy
import unittest
from functools import lru_cache

from amongalike.leaving import best_with, left_out, loss_with
from amongalike.least import least_loss
from amongalike.showing import loss, shown
from samples import (
    ALL_ALIKE, FIVE, FOUR_ROWS, MANY_ROWS, NO_TWO_ALIKE, ONE_ROW, ONE_VALUE, SHOWN_TABLES, SMALLEST, THREE, TWO,
    classes_told, last_way, put_together, ways_of,
)

# One row stands alone, and coarse steps lose much for the sake of it.
ODD_ONE = ((FIVE, TWO), ((0, 0), (0, 0), (0, 0), (4, 1)), (0, 1, 2, 3))
# By the first steps two rows are left out, by the next ones none; the same is lost.
EVEN = ((TWO,), ((0,), (1,)), (0, 1))


@lru_cache(maxsize=None)
def left_told(table, way, many):
    rows = []
    for row in range(len(table[1])):
        if any(row in members and len(members) < many for members in classes_told(table, way)):
            rows.append(row)
    return tuple(rows)


@lru_cache(maxsize=None)
def loss_with_told(table, way, many):
    gone = left_told(table, way, many)
    lost = 0
    for number, row in enumerate(table[1]):
        for column, value in enumerate(row):
            values = len(table[0][column][0])
            lost += (values if number in gone else len(put_together(table, way, column, value))) - 1
    return lost


def numbers_for(table):
    """A many for each sort: below what there are, just as many, and more."""
    rows = len(table[1])
    return sorted({-1, 0, 1, 2, 3, 4, rows - 1, rows, rows + 1, rows + 50})


def samples_with_many():
    for table in SHOWN_TABLES:
        for many in numbers_for(table):
            yield table, many


class LeftOut(unittest.TestCase):
    def test_ordinary_ones(self):
        self.assertEqual(left_out(NO_TWO_ALIKE, (2,), 2), (4,))
        self.assertEqual(left_out(NO_TWO_ALIKE, (2,), 3), (0, 1, 2, 3, 4))
        self.assertEqual(left_out(NO_TWO_ALIKE, (3,), 5), ())
        self.assertEqual(left_out(FOUR_ROWS, (0, 0), 2), (0, 1, 2, 3))
        self.assertEqual(left_out(FOUR_ROWS, (0, 1), 2), ())
        self.assertEqual(left_out(ODD_ONE, (0, 0), 2), (3,))

    def test_rows_rise_over_all_classes(self):
        table = ((THREE,), ((2,), (0,), (1,), (2,), (0,), (1,), (1,)), (0,) * 7)
        self.assertEqual(left_out(table, (0,), 3), (0, 1, 3, 4))

    def test_more_than_nine_rows_rise_as_numbers(self):
        table = ((TWO,), ((1,),) + ((0,),) * 9 + ((1,),) * 3, (0,) * 13)
        self.assertEqual(left_out(table, (0,), 5), (0, 10, 11, 12))
        self.assertEqual(left_out(table, (0,), 10), tuple(range(13)))

    def test_as_the_document_says(self):
        for table, many in samples_with_many():
            for way in ways_of(table):
                self.assertEqual(repr(left_out(table, way, many)), repr(left_told(table, way, many)))

    def test_many_of_none_and_one_leave_nothing_out(self):
        for table in SHOWN_TABLES:
            for way in ways_of(table):
                for many in (-1, 0, 1):
                    self.assertEqual(left_out(table, way, many), ())

    def test_many_above_the_rows_leave_all_out(self):
        for table in SHOWN_TABLES:
            rows = len(table[1])
            for way in ways_of(table):
                for many in (rows + 1, rows + 2, rows + 100):
                    self.assertEqual(left_out(table, way, many), tuple(range(rows)))

    def test_just_so_many_rows_are_enough(self):
        for table in SHOWN_TABLES:
            self.assertEqual(left_out(table, last_way(table), len(table[1])), ())

    def test_what_is_still_shown_is_among_many(self):
        for table, many in samples_with_many():
            for way in ways_of(table):
                gone = left_out(table, way, many)
                rows = [row for number, row in enumerate(shown(table, way)) if number not in gone]
                for row in rows:
                    self.assertGreaterEqual(rows.count(row), many)


class LossWith(unittest.TestCase):
    def test_some_rows_are_left_out(self):
        # Four rows lose 1 each, and of the row that is left out 4 other values are thinkable.
        self.assertEqual(loss_with(NO_TWO_ALIKE, (2,), 2), 4 * 1 + 4)
        self.assertEqual(loss_with(ODD_ONE, (0, 0), 2), 4 + 1)
        self.assertEqual(loss_with(ODD_ONE, (1, 0), 2), 3 * 1 + 4 + 1)

    def test_no_row_is_left_out(self):
        self.assertEqual(loss_with(NO_TWO_ALIKE, (2,), 1), 4)
        self.assertEqual(loss_with(FOUR_ROWS, (0, 1), 2), 4)
        for table in SHOWN_TABLES:
            for way in ways_of(table):
                for many in (-1, 0, 1):
                    self.assertEqual(loss_with(table, way, many), loss(table, way))

    def test_all_rows_are_left_out(self):
        self.assertEqual(loss_with(NO_TWO_ALIKE, (2,), 3), 5 * 4)
        self.assertEqual(loss_with(FOUR_ROWS, (0, 0), 2), 4 * 2)
        for table in SHOWN_TABLES:
            all_lost = len(table[1]) * sum(len(ladder[0]) - 1 for ladder in table[0])
            for way in ways_of(table):
                self.assertEqual(loss_with(table, way, len(table[1]) + 1), all_lost)

    def test_nothing_can_be_lost_of_one_value(self):
        for many in range(7):
            self.assertEqual(loss_with(ONE_VALUE, (0, 0), many), 0)
            self.assertEqual(loss_with(SMALLEST, (0,), many), 0)

    def test_as_the_document_says(self):
        some = 0
        for table, many in samples_with_many():
            for way in ways_of(table):
                told = loss_with(table, way, many)
                self.assertEqual(told, loss_with_told(table, way, many))
                self.assertIs(type(told), int)
                some += 0 < len(left_told(table, way, many)) < len(table[1])
        self.assertGreater(some, 500)

    def test_no_less_is_lost_than_without_leaving_out(self):
        for table, many in samples_with_many():
            for way in ways_of(table):
                self.assertGreaterEqual(loss_with(table, way, many), loss(table, way))


class BestWith(unittest.TestCase):
    def test_ordinary_ones(self):
        self.assertEqual(best_with(ODD_ONE, 2, 0), (20, (3, 1)))
        self.assertEqual(best_with(ODD_ONE, 2, 1), (5, (0, 0)))
        self.assertEqual(best_with(NO_TWO_ALIKE, 2, 0), (20, (3,)))
        self.assertEqual(best_with(NO_TWO_ALIKE, 2, 1), (8, (2,)))
        self.assertEqual(best_with(ALL_ALIKE, 5, 0), (0, (0, 0)))

    def test_the_first_way_of_several(self):
        self.assertEqual((loss_with(EVEN, (0,), 2), loss_with(EVEN, (1,), 2)), (2, 2))
        self.assertEqual(best_with(EVEN, 2, 2), (2, (0,)))
        self.assertEqual(best_with(EVEN, 2, 1), (2, (1,)))
        self.assertEqual(loss_with(FOUR_ROWS, (0, 1), 2), loss_with(FOUR_ROWS, (1, 0), 2))
        self.assertEqual(best_with(FOUR_ROWS, 2, 0), (4, (0, 1)))
        # All lose the same where each row is left out by each way.
        self.assertEqual(best_with(FOUR_ROWS, 5, 4), (8, (0, 0)))

    def test_none_where_there_is_no_way(self):
        for table in SHOWN_TABLES:
            rows = len(table[1])
            for most in range(rows):
                self.assertIsNone(best_with(table, rows + 1, most))
            for many in numbers_for(table):
                self.assertIsNone(best_with(table, many, -1))
        self.assertIsNone(best_with(ONE_ROW, 2, 0))

    def test_as_many_may_be_left_out_as_there_are(self):
        for table, many in samples_with_many():
            for more in (0, 1, 20):
                told = best_with(table, many, len(table[1]) + more)
                least = min(loss_with_told(table, way, many) for way in ways_of(table))
                self.assertEqual(told[0], least)

    def test_as_the_document_says(self):
        ties = none = 0
        for table, many in samples_with_many():
            lost = [(way, len(left_told(table, way, many)), loss_with_told(table, way, many)) for way in ways_of(table)]
            for most in sorted({0, 1, 2, 3, len(table[1]) // 2, len(table[1]) - 1, len(table[1])}):
                losses = {way: its for way, gone, its in lost if gone <= most}
                if not losses:
                    none += 1
                    self.assertIsNone(best_with(table, many, most))
                    continue
                least = min(losses.values())
                with_it = [way for way in losses if losses[way] == least]
                ties += len(with_it) > 1
                self.assertEqual(repr(best_with(table, many, most)), repr((least, min(with_it))))
        self.assertGreater(ties, 100)
        self.assertGreater(none, 100)

    def test_with_none_left_out_it_is_the_least_loss(self):
        for table, many in samples_with_many():
            self.assertEqual(repr(best_with(table, many, 0)), repr(least_loss(table, many)))

    def test_with_a_greater_most_no_more_is_lost(self):
        for table, many in samples_with_many():
            before = None
            for most in range(len(table[1]) + 2):
                told = best_with(table, many, most)
                if before is not None:
                    self.assertLessEqual(told[0], before[0])
                before = told

    def test_no_more_than_most_are_left_out(self):
        for table, many in samples_with_many():
            for most in (0, 1, 2, 5):
                told = best_with(table, many, most)
                if told is not None:
                    self.assertLessEqual(len(left_out(table, told[1], many)), most)
                    self.assertEqual(loss_with(table, told[1], many), told[0])


class AskedAgain(unittest.TestCase):
    def told(self, table, many):
        return [best_with(table, many, 1)] + [
            (left_out(table, way, many), loss_with(table, way, many)) for way in ways_of(table)]

    def test_nothing_is_changed_and_the_same_is_told(self):
        for table in SHOWN_TABLES + [ODD_ONE, EVEN, MANY_ROWS]:
            before = copy.deepcopy(table)
            self.assertEqual(repr(self.told(table, 2)), repr(self.told(table, 2)))
            self.assertEqual(repr(table), repr(before))


if __name__ == "__main__":
    unittest.main()
