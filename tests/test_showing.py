import copy
import unittest

from amongalike.showing import all_ways, classes, fewest_alike, is_coarser, is_mixed, is_safe, loss, shown
from samples import (
    ALL_ALIKE, EXAMPLE, FIVE, FOUR_ROWS, MANY_ROWS, NO_TWO_ALIKE, ONE_ROW, ONE_VALUE, SHOWN_TABLES, SMALLEST, THREE,
    TWO, WIDEST, classes_told, first_way, last_way, loss_told, pairs_of_coarser, rows_told, ways_of,
)


class Shown(unittest.TestCase):
    def test_ordinary_ones(self):
        self.assertEqual(shown(EXAMPLE, (0, 0)), ((0, 2), (1, 1)))
        self.assertEqual(shown(EXAMPLE, (0, 1)), ((0, 2), (1, 0)))
        self.assertEqual(shown(EXAMPLE, (1, 0)), ((0, 2), (0, 1)))
        self.assertEqual(shown(EXAMPLE, (1, 2)), ((0, 0), (0, 0)))

    def test_as_the_document_says(self):
        for table in SHOWN_TABLES:
            for way in ways_of(table):
                self.assertEqual(repr(shown(table, way)), repr(rows_told(table, way)))

    def test_by_the_first_steps_rows_are_shown_as_they_are(self):
        for table in SHOWN_TABLES:
            self.assertEqual(shown(table, first_way(table)), table[1])

    def test_by_the_last_steps_all_are_shown_alike(self):
        for table in SHOWN_TABLES:
            self.assertEqual(shown(table, last_way(table)), ((0,) * len(table[0]),) * len(table[1]))

    def test_rows_keep_their_order(self):
        self.assertEqual(shown(NO_TWO_ALIKE, (2,)), ((1,), (0,), (0,), (1,), (3,)))


class Classes(unittest.TestCase):
    def test_ordinary_ones(self):
        self.assertEqual(classes(NO_TWO_ALIKE, (2,)), ((0, 3), (1, 2), (4,)))
        self.assertEqual(classes(FOUR_ROWS, (0, 1)), ((0, 1), (2, 3)))
        self.assertEqual(classes(FOUR_ROWS, (1, 0)), ((0, 2), (1, 3)))
        self.assertEqual(classes(EXAMPLE, (1, 1)), ((0,), (1,)))

    def test_as_the_document_says(self):
        for table in SHOWN_TABLES:
            for way in ways_of(table):
                self.assertEqual(repr(classes(table, way)), repr(classes_told(table, way)))

    def test_they_rise_and_each_row_is_in_just_one(self):
        for table in SHOWN_TABLES:
            for way in ways_of(table):
                told = classes(table, way)
                self.assertEqual(told, tuple(sorted(told)))
                self.assertEqual([members for members in told if members != tuple(sorted(members))], [])
                self.assertEqual(sorted(sum(told, ())), list(range(len(table[1]))))

    def test_they_rise_by_their_rows_not_by_what_is_shown(self):
        self.assertEqual(classes(((THREE,), ((2,), (0,), (2,), (1,)), (0,) * 4), (0,)), ((0, 2), (1,), (3,)))

    def test_more_than_nine_rows_rise_as_numbers(self):
        table = ((TWO,), ((1,),) + ((0,),) * 9 + ((1,),) * 3, (0,) * 13)
        self.assertEqual(classes(table, (0,)), ((0, 10, 11, 12), tuple(range(1, 10))))

    def test_one_row(self):
        for way in ways_of(ONE_ROW):
            self.assertEqual(classes(ONE_ROW, way), ((0,),))

    def test_all_rows_alike(self):
        for table in (ALL_ALIKE, ONE_VALUE):
            for way in ways_of(table):
                self.assertEqual(classes(table, way), (tuple(range(len(table[1]))),))

    def test_no_two_rows_alike(self):
        self.assertEqual(classes(NO_TWO_ALIKE, (0,)), ((0,), (1,), (2,), (3,), (4,)))

    def test_shown_coarser_rows_stay_alike(self):
        for table, one, other in pairs_of_coarser():
            wider = [set(members) for members in classes(table, one)]
            for members in classes(table, other):
                self.assertTrue(any(set(members) <= whole for whole in wider))


class FewestAlike(unittest.TestCase):
    def test_ordinary_ones(self):
        self.assertEqual(fewest_alike(NO_TWO_ALIKE, (2,)), 1)
        self.assertEqual(fewest_alike(FOUR_ROWS, (0, 1)), 2)
        self.assertEqual(fewest_alike(((TWO,), ((1,), (0,), (1,), (0,), (1,)), (0,) * 5), (0,)), 2)

    def test_as_the_document_says(self):
        for table in SHOWN_TABLES:
            for way in ways_of(table):
                fewest = fewest_alike(table, way)
                self.assertEqual(fewest, min(len(members) for members in classes_told(table, way)))
                self.assertIs(type(fewest), int)

    def test_edges(self):
        self.assertEqual(fewest_alike(SMALLEST, (0,)), 1)
        self.assertEqual(fewest_alike(ONE_ROW, (2, 1)), 1)
        self.assertEqual(fewest_alike(ALL_ALIKE, (0, 0)), 5)
        self.assertEqual(fewest_alike(ONE_VALUE, (0, 0)), 4)
        self.assertEqual(fewest_alike(NO_TWO_ALIKE, (0,)), 1)
        self.assertEqual(fewest_alike(NO_TWO_ALIKE, (3,)), 5)
        self.assertEqual(fewest_alike(MANY_ROWS, last_way(MANY_ROWS)), 30)

    def test_shown_coarser_each_is_among_no_fewer(self):
        for table, one, other in pairs_of_coarser():
            self.assertGreaterEqual(fewest_alike(table, one), fewest_alike(table, other))


class AllWays(unittest.TestCase):
    def test_ordinary_ones(self):
        self.assertEqual(all_ways(EXAMPLE), ((0, 0), (0, 1), (0, 2), (1, 0), (1, 1), (1, 2)))
        self.assertEqual(all_ways(SMALLEST), ((0,),))
        self.assertEqual(all_ways(ONE_VALUE), ((0, 0),))
        self.assertEqual(all_ways(NO_TWO_ALIKE), ((0,), (1,), (2,), (3,)))
        self.assertEqual(len(all_ways(WIDEST)), 4 * 2 * 3)

    def test_all_there_are_and_they_rise(self):
        for table in SHOWN_TABLES:
            self.assertEqual(repr(all_ways(table)), repr(tuple(sorted(ways_of(table)))))

    def test_most_steps_and_columns(self):
        ways = all_ways(((FIVE,) * 3, ((0, 0, 0),), (0,)))
        self.assertEqual(len(ways), 64)
        self.assertEqual((ways[0], ways[1], ways[4], ways[16], ways[63]),
                         ((0, 0, 0), (0, 0, 1), (0, 1, 0), (1, 0, 0), (3, 3, 3)))


class Safe(unittest.TestCase):
    def test_ordinary_ones(self):
        self.assertIs(is_safe(FOUR_ROWS, (0, 1), 2), True)
        self.assertIs(is_safe(FOUR_ROWS, (0, 1), 3), False)
        self.assertIs(is_safe(FOUR_ROWS, (0, 0), 2), False)
        self.assertIs(is_safe(NO_TWO_ALIKE, (2,), 2), False)

    def test_as_the_document_says(self):
        for table in SHOWN_TABLES:
            for way in ways_of(table):
                for many in range(len(table[1]) + 3):
                    told = all(len(members) >= many for members in classes_told(table, way))
                    self.assertIs(is_safe(table, way, many), told)

    def test_many_of_none_one_and_more_than_there_are(self):
        for table in SHOWN_TABLES:
            for way in ways_of(table):
                for many in (-1, 0, 1):
                    self.assertIs(is_safe(table, way, many), True)
                for more in (1, 2, 100):
                    self.assertIs(is_safe(table, way, len(table[1]) + more), False)

    def test_all_rows_are_enough_by_the_last_steps(self):
        for table in SHOWN_TABLES:
            self.assertIs(is_safe(table, last_way(table), len(table[1])), True)

    def test_what_is_safe_stays_so(self):
        for table, one, other in pairs_of_coarser():
            for many in range(1, len(table[1]) + 1):
                if is_safe(table, other, many):
                    self.assertIs(is_safe(table, one, many), True)


class Mixed(unittest.TestCase):
    def test_ordinary_ones(self):
        table = ((TWO,), ((0,), (0,), (0,), (1,), (1,)), (3, 3, 0, 2, 1))
        self.assertIs(is_mixed(table, (0,), 2), True)
        self.assertIs(is_mixed(table, (0,), 3), False)
        self.assertIs(is_mixed(table, (1,), 4), True)
        self.assertIs(is_mixed(table, (1,), 5), False)

    def test_like_secrets_count_once(self):
        table = ((TWO,), ((0,),) * 6, (2,) * 6)
        self.assertIs(is_mixed(table, (0,), 1), True)
        self.assertIs(is_mixed(table, (0,), 2), False)
        self.assertIs(is_safe(table, (0,), 6), True)

    def test_each_class_is_asked(self):
        for secrets in ((0, 1, 2, 2), (2, 2, 0, 1)):
            table = ((TWO,), ((0,), (0,), (1,), (1,)), secrets)
            self.assertIs(is_mixed(table, (0,), 2), False)
            self.assertIs(is_mixed(table, (1,), 3), True)

    def test_as_the_document_says(self):
        for table in SHOWN_TABLES:
            for way in ways_of(table):
                for many in range(7):
                    told = all(
                        len({table[2][number] for number in members}) >= many
                        for members in classes_told(table, way))
                    self.assertIs(is_mixed(table, way, many), told)

    def test_many_of_none_one_and_more_than_there_are(self):
        for table in SHOWN_TABLES:
            for way in ways_of(table):
                for many in (-1, 0, 1):
                    self.assertIs(is_mixed(table, way, many), True)
                for many in (5, len(table[1]) + 1, 100):
                    if many > min(4, len(table[1])):
                        self.assertIs(is_mixed(table, way, many), False)

    def test_what_is_mixed_stays_so(self):
        for table, one, other in pairs_of_coarser():
            for many in range(1, 5):
                if is_mixed(table, other, many):
                    self.assertIs(is_mixed(table, one, many), True)


class Coarser(unittest.TestCase):
    def test_ordinary_ones(self):
        for one, other in (((1,), (0,)), ((0, 1), (0, 0)), ((1, 0), (0, 0)), ((2, 1), (1, 0)), ((3, 1, 2), (3, 0, 2))):
            self.assertIs(is_coarser(one, other), True)
            self.assertIs(is_coarser(other, one), False)

    def test_none_is_coarser_than_itself(self):
        for table in SHOWN_TABLES:
            for way in ways_of(table):
                self.assertIs(is_coarser(way, tuple(list(way))), False)

    def test_neither_is_coarser(self):
        for one, other in (((0, 1), (1, 0)), ((3, 0), (0, 1)), ((1, 1, 0), (0, 0, 1)), ((2, 0, 2), (0, 3, 3))):
            self.assertIs(is_coarser(one, other), False)
            self.assertIs(is_coarser(other, one), False)

    def test_as_the_document_says(self):
        ways = ways_of(((FIVE,) * 3, (), ()))
        for one in ways:
            for other in ways:
                less = [column for column in range(3) if one[column] < other[column]]
                greater = [column for column in range(3) if one[column] > other[column]]
                self.assertIs(is_coarser(one, other), not less and bool(greater))


class Loss(unittest.TestCase):
    def test_ordinary_ones(self):
        self.assertEqual(loss(EXAMPLE, (0, 1)), 1)
        self.assertEqual(loss(EXAMPLE, (1, 0)), 2)
        self.assertEqual(loss(EXAMPLE, (1, 1)), 3)
        self.assertEqual(loss(EXAMPLE, (1, 2)), 6)
        self.assertEqual(loss(NO_TWO_ALIKE, (1,)), 2)
        self.assertEqual(loss(NO_TWO_ALIKE, (2,)), 4)

    def test_values_that_stand_in_no_row_count(self):
        self.assertEqual(loss(((FIVE,), ((4,),), (0,)), (3,)), 4)
        self.assertEqual(loss(((FIVE,), ((4,),), (0,)), (2,)), 1)
        self.assertEqual(loss(((FIVE,), ((3,),), (0,)), (2,)), 0)

    def test_as_the_document_says(self):
        for table in SHOWN_TABLES:
            for way in ways_of(table):
                self.assertEqual(loss(table, way), loss_told(table, way))
                self.assertIs(type(loss(table, way)), int)

    def test_nothing_is_lost_by_the_first_steps(self):
        for table in SHOWN_TABLES:
            self.assertEqual(loss(table, first_way(table)), 0)

    def test_all_that_can_be_lost_is_lost_by_the_last_steps(self):
        for table in SHOWN_TABLES:
            most = len(table[1]) * sum(len(ladder[0]) - 1 for ladder in table[0])
            self.assertEqual(loss(table, last_way(table)), most)

    def test_nothing_can_be_lost_of_one_value(self):
        self.assertEqual(loss(ONE_VALUE, (0, 0)), 0)
        self.assertEqual(loss(SMALLEST, (0,)), 0)

    def test_shown_coarser_no_less_is_lost(self):
        for table, one, other in pairs_of_coarser():
            self.assertGreaterEqual(loss(table, one), loss(table, other))


class AskedAgain(unittest.TestCase):
    def told(self, table):
        ways = all_ways(table)
        return [ways] + [
            (shown(table, way), classes(table, way), fewest_alike(table, way), loss(table, way),
             is_safe(table, way, 2), is_mixed(table, way, 2), is_coarser(way, ways[0]))
            for way in ways]

    def test_nothing_is_changed_and_the_same_is_told(self):
        for table in SHOWN_TABLES:
            before = copy.deepcopy(table)
            self.assertEqual(repr(self.told(table)), repr(self.told(table)))
            self.assertEqual(repr(table), repr(before))


if __name__ == "__main__":
    unittest.main()
