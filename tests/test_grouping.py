import copy
import unittest
from functools import lru_cache
from itertools import combinations

from amongalike.grouping import best_grouping, group_loss, group_way
from amongalike.least import least_loss
from amongalike.showing import loss, shown
from samples import (
    ALL_ALIKE, EXAMPLE, FIVE, FOUR_ROWS, MADE, NO_TWO_ALIKE, ONE_ROW, ONE_VALUE, SHOWN_TABLES, SMALLEST, TABLES, THREE,
    TWO, WIDEST, first_way, last_way, made_table, put_together, ways_of,
)

SMALL_TABLES = [table for table in TABLES + MADE + [FOUR_ROWS, ONE_ROW, ALL_ALIKE, NO_TWO_ALIKE, ONE_VALUE]
                if len(table[1]) <= 8]
LONGER_TABLES = [made_table(seed, columns, rows) for seed in (7, 8) for columns in (1, 2, 3) for rows in (9, 10)]
# A lonely row needs two of the four that are alike, and the other two are then enough for themselves.
HELPED = ((FIVE,), ((0,), (0,), (2,), (0,), (0,)), (0, 1, 2, 3, 0))
# By no one way do both halves lose as little as each by its own.
TWO_HALVES = ((FIVE, FIVE), ((0, 0), (0, 1), (0, 3), (2, 4), (3, 4), (1, 4)), (0,) * 6)


@lru_cache(maxsize=None)
def group_way_told(table, group):
    fitting = []
    for way in ways_of(table):
        rows = [[put_together(table, way, column, value) for column, value in enumerate(table[1][number])]
                for number in group]
        if all(row == rows[0] for row in rows):
            fitting.append(way)
    # Each column's least number, whatever the other columns need.
    return tuple(min(way[column] for way in fitting) for column in range(len(table[0])))


@lru_cache(maxsize=None)
def group_loss_told(table, group):
    way = group_way_told(table, group)
    lost = 0
    for number in group:
        for column, value in enumerate(table[1][number]):
            lost += len(put_together(table, way, column, value)) - 1
    return lost


@lru_cache(maxsize=None)
def groupings_of(rows):
    """All ways to put rows, told as a rising tuple, into groups."""
    if not rows:
        return [()]
    found = []
    for size in range(len(rows)):
        for others in combinations(rows[1:], size):
            rest = tuple(row for row in rows[1:] if row not in others)
            found += [((rows[0],) + others,) + grouping for grouping in groupings_of(rest)]
    return found


def least_told(table, many):
    """The least loss of all groupings, gone through one by one."""
    losses = [sum(group_loss_told(table, group) for group in grouping)
              for grouping in groupings_of(tuple(range(len(table[1]))))
              if all(len(group) >= many for group in grouping)]
    return min(losses, default=None)


def least_step_by_step(table, many):
    """The same for more rows: the first row's group, and the least loss of the rest."""
    @lru_cache(maxsize=None)
    def least_of(rows):
        if not rows:
            return 0
        losses = []
        for size in range(many - 1, len(rows)):
            for others in combinations(rows[1:], size):
                rest = least_of(tuple(row for row in rows[1:] if row not in others))
                if rest is not None:
                    losses.append(rest + group_loss_told(table, (rows[0],) + others))
        return min(losses, default=None)
    return least_of(tuple(range(len(table[1]))))


class GroupWay(unittest.TestCase):
    def test_a_group_of_one_row(self):
        for table in SHOWN_TABLES:
            for row in range(len(table[1])):
                self.assertEqual(group_way(table, (row,)), first_way(table))

    def test_ordinary_ones(self):
        self.assertEqual(group_way(NO_TWO_ALIKE, (1, 2)), (1,))
        self.assertEqual(group_way(NO_TWO_ALIKE, (0, 3)), (2,))
        self.assertEqual(group_way(NO_TWO_ALIKE, (0, 1)), (3,))
        self.assertEqual(group_way(EXAMPLE, (0, 1)), (1, 2))

    def test_rows_alike_in_some_columns(self):
        self.assertEqual(group_way(FOUR_ROWS, (0, 1)), (0, 1))
        self.assertEqual(group_way(FOUR_ROWS, (0, 2)), (1, 0))
        self.assertEqual(group_way(FOUR_ROWS, (0, 3)), (1, 1))
        self.assertEqual(group_way(TWO_HALVES, (0, 1, 2)), (0, 3))
        self.assertEqual(group_way(TWO_HALVES, (3, 4, 5)), (3, 0))

    def test_all_rows(self):
        self.assertEqual(group_way(ALL_ALIKE, (0, 1, 2, 3, 4)), (0, 0))
        self.assertEqual(group_way(ONE_VALUE, (0, 1, 2, 3)), (0, 0))
        self.assertEqual(group_way(NO_TWO_ALIKE, (0, 1, 2, 3, 4)), (3,))
        self.assertEqual(group_way(HELPED, (0, 1, 2, 3, 4)), (1,))

    def test_as_the_document_says(self):
        for table in SMALL_TABLES:
            for size in range(1, len(table[1]) + 1):
                for group in combinations(range(len(table[1])), size):
                    self.assertEqual(repr(group_way(table, group)), repr(group_way_told(table, group)))

    def test_all_rows_of_the_group_are_shown_alike_by_it(self):
        for table in SHOWN_TABLES:
            rows = len(table[1])
            for group in (tuple(range(rows)), tuple(range(0, rows, 2)), (0, rows - 1)):
                self.assertEqual(len({shown(table, group_way(table, group))[row] for row in group}), 1)


class GroupLoss(unittest.TestCase):
    def test_a_group_of_one_row_loses_nothing(self):
        for table in SHOWN_TABLES:
            for row in range(len(table[1])):
                self.assertEqual(group_loss(table, (row,)), 0)

    def test_ordinary_ones(self):
        self.assertEqual(group_loss(NO_TWO_ALIKE, (1, 2)), 2)
        self.assertEqual(group_loss(NO_TWO_ALIKE, (0, 3)), 2)
        self.assertEqual(group_loss(NO_TWO_ALIKE, (0, 1)), 8)
        self.assertEqual(group_loss(EXAMPLE, (0, 1)), 6)
        self.assertEqual(group_loss(FOUR_ROWS, (0, 1)), 2)
        self.assertEqual(group_loss(FOUR_ROWS, (0, 3)), 4)
        self.assertEqual(group_loss(TWO_HALVES, (0, 1, 2)), 12)

    def test_all_rows(self):
        self.assertEqual(group_loss(ALL_ALIKE, (0, 1, 2, 3, 4)), 0)
        self.assertEqual(group_loss(NO_TWO_ALIKE, (0, 1, 2, 3, 4)), 20)
        for table in SHOWN_TABLES:
            group = tuple(range(len(table[1])))
            self.assertEqual(group_loss(table, group), loss(table, group_way(table, group)))

    def test_as_the_document_says(self):
        for table in SMALL_TABLES:
            for size in range(1, len(table[1]) + 1):
                for group in combinations(range(len(table[1])), size):
                    told = group_loss(table, group)
                    self.assertEqual(told, group_loss_told(table, group))
                    self.assertIs(type(told), int)

    def test_with_a_row_more_no_less_is_lost(self):
        for table in SMALL_TABLES:
            for size in range(1, len(table[1])):
                for group in combinations(range(len(table[1])), size):
                    for row in set(range(len(table[1]))) - set(group):
                        self.assertGreaterEqual(
                            group_loss(table, tuple(sorted(group + (row,)))), group_loss(table, group))


class BestGrouping(unittest.TestCase):
    def holds_its_promise(self, table, many, told):
        """What is promised of any answer, but that no grouping loses less."""
        lost, grouping = told
        self.assertIs(type(told), tuple)
        self.assertIs(type(grouping), tuple)
        self.assertEqual(sorted(row for group in grouping for row in group), list(range(len(table[1]))))
        self.assertEqual(grouping, tuple(sorted(grouping)))
        for group in grouping:
            self.assertIs(type(group), tuple)
            self.assertEqual(group, tuple(sorted(group)))
            self.assertTrue(many <= len(group) < 2 * many, f"{group!r} for {many!r}")
        self.assertEqual(lost, sum(group_loss(table, group) for group in grouping))
        self.assertIs(type(lost), int)

    def test_ordinary_ones(self):
        self.assertEqual(best_grouping(NO_TWO_ALIKE, 2)[0], 14)
        self.assertEqual(best_grouping(TWO_HALVES, 3), (24, ((0, 1, 2), (3, 4, 5))))
        self.assertEqual(best_grouping(FOUR_ROWS, 2)[0], 4)
        self.assertEqual(best_grouping(ALL_ALIKE, 2)[0], 0)

    def test_a_row_may_need_others_that_need_it_not(self):
        lost, grouping = best_grouping(HELPED, 2)
        self.assertEqual(lost, 2)
        self.assertEqual(sorted(len(group) for group in grouping), [2, 3])
        self.assertEqual([len(group) for group in grouping if 2 in group], [2])

    def test_two_groups_lose_less_than_one(self):
        self.assertEqual(group_loss(TWO_HALVES, (0, 1, 2, 3, 4, 5)), 48)
        self.assertEqual(best_grouping(TWO_HALVES, 3)[0], 24)
        self.assertEqual(least_loss(TWO_HALVES, 3)[0], 48)

    def test_many_of_one(self):
        for table in SHOWN_TABLES:
            rows = len(table[1])
            self.assertEqual(best_grouping(table, 1), (0, tuple((row,) for row in range(rows))))

    def test_many_of_just_the_rows(self):
        for table in SHOWN_TABLES:
            group = tuple(range(len(table[1])))
            self.assertEqual(best_grouping(table, len(group)), (group_loss(table, group), (group,)))

    def test_one_group_where_two_would_be_too_small(self):
        for table in SHOWN_TABLES:
            group = tuple(range(len(table[1])))
            for many in range(len(group) // 2 + 1, len(group) + 1):
                self.assertEqual(best_grouping(table, many), (group_loss(table, group), (group,)))

    def test_none_where_there_are_fewer_rows(self):
        for table in SHOWN_TABLES:
            for more in (1, 2, 100):
                self.assertIsNone(best_grouping(table, len(table[1]) + more))

    def test_a_many_below_one_is_not_refused(self):
        for table in (SMALLEST, WIDEST, NO_TWO_ALIKE):
            for many in (0, -1):
                self.assertEqual(best_grouping(table, many)[0], 0)

    def test_equal_rows_in_plenty(self):
        table = ((TWO,), ((0,), (1,)) * 12, (0,) * 24)
        for many in range(1, 13):
            told = best_grouping(table, many)
            self.holds_its_promise(table, many, told)
            self.assertEqual(told[0], 0)

    def test_no_grouping_of_small_tables_loses_less(self):
        several = 0
        for table in SMALL_TABLES:
            for many in range(1, len(table[1]) + 1):
                told = best_grouping(table, many)
                self.holds_its_promise(table, many, told)
                self.assertEqual(told[0], least_told(table, many), f"for {many!r} by {table!r}")
                several += many > 1 and len(told[1]) > 1
        self.assertGreater(several, 50)

    def test_no_grouping_of_many_tables_loses_less(self):
        for seed in range(20, 100):
            table = made_table(seed, 1 + seed % 3, 4 + seed % 3)
            for many in (2, 3):
                told = best_grouping(table, many)
                self.holds_its_promise(table, many, told)
                self.assertEqual(told[0], least_told(table, many), f"for {many!r} by {table!r}")

    def test_no_grouping_of_longer_tables_loses_less(self):
        for table in LONGER_TABLES:
            for many in (2, 3, 4, 5):
                told = best_grouping(table, many)
                self.holds_its_promise(table, many, told)
                self.assertEqual(told[0], least_step_by_step(table, many), f"for {many!r} by {table!r}")

    def test_longer_tables_keep_to_the_form(self):
        for table in SHOWN_TABLES:
            for many in (2, 3, 5, 8):
                if len(table[1]) >= many and len(table[1]) * len(table[0]) <= 36:
                    self.holds_its_promise(table, many, best_grouping(table, many))

    def test_no_more_is_lost_than_by_the_least_safe_way(self):
        less = 0
        for table in SMALL_TABLES + LONGER_TABLES + [TWO_HALVES, HELPED]:
            for many in range(1, len(table[1]) + 1):
                lost = best_grouping(table, many)[0]
                least = least_loss(table, many)[0]
                self.assertLessEqual(lost, least)
                less += lost < least
        self.assertGreater(less, 50)

    def test_with_a_greater_many_no_less_is_lost(self):
        for table in SMALL_TABLES + LONGER_TABLES:
            losses = [best_grouping(table, many)[0] for many in range(1, len(table[1]) + 1)]
            self.assertEqual(losses, sorted(losses))
            self.assertLessEqual(losses[-1], loss(table, last_way(table)))

    def test_the_order_of_rows_makes_no_difference_to_the_loss(self):
        table = ((THREE, TWO), ((0, 0), (2, 1), (1, 0), (2, 0), (0, 1)), (0,) * 5)
        for turn in range(5):
            rows = table[1][turn:] + table[1][:turn]
            for many in (2, 3):
                told = best_grouping((table[0], rows, table[2]), many)
                self.assertEqual(told[0], least_told(table, many))


class AskedAgain(unittest.TestCase):
    def told(self, table):
        group = tuple(range(0, len(table[1]), 2))
        return group_way(table, group), group_loss(table, group), best_grouping(table, 2)

    def test_nothing_is_changed_and_the_same_is_told(self):
        for table in SMALL_TABLES + LONGER_TABLES:
            before = copy.deepcopy(table)
            self.assertEqual(repr(self.told(table)), repr(self.told(table)))
            self.assertEqual(repr(table), repr(before))


if __name__ == "__main__":
    unittest.main()
