import copy
import unittest
from itertools import product

from amongalike.tables import is_ladder, is_table, is_way
from samples import (
    EXAMPLE, FIVE, LADDERS, NOWHERE_RIGHT, ONE, SMALLEST, TABLES, THREE, TWO, WIDEST,
    ladders_of, spoiled, steps_of, with_part,
)

# Python holds 1 and True for equal; their writings differ.
LADDER_WRITINGS = {repr(ladder) for ladder in LADDERS}


class Telling(unittest.TestCase):
    def tells(self, answer, expected, thing):
        if answer is not expected:
            self.fail(f"{answer!r} was told of {thing!r}")


class Ladders(Telling):
    def as_listed(self, thing):
        self.tells(is_ladder(thing), repr(thing) in LADDER_WRITINGS, thing)

    def test_ordinary_ones(self):
        for ladder in (ONE, TWO, THREE, FIVE):
            self.tells(is_ladder(ladder), True, ladder)

    def test_all_there_are(self):
        self.assertEqual([len(steps_of(values)) for values in range(1, 6)], [1, 2, 5, 15, 52])
        for ladder in LADDERS:
            self.tells(is_ladder(ladder), True, ladder)

    def test_one_value_has_just_one_step(self):
        self.tells(is_ladder(((0,),)), True, ONE)
        for steps in range(2, 6):
            self.tells(is_ladder(((0,),) * steps), False, steps)

    def test_more_values_have_two_steps_or_more(self):
        for values in range(2, 7):
            self.tells(is_ladder((tuple(range(values)),)), False, values)
            self.tells(is_ladder(((0,) * values,)), False, values)

    def test_one_to_five_values(self):
        self.tells(is_ladder(((),)), False, "no value")
        self.tells(is_ladder(((), ())), False, "no value")
        for values in range(2, 12):
            ladder = (tuple(range(values)), (0,) * values)
            self.tells(is_ladder(ladder), values <= 5, ladder)

    def test_one_to_four_steps(self):
        self.tells(is_ladder(()), False, "no step")
        four = ((0, 1, 2, 3), (0, 0, 2, 3), (0, 0, 2, 2), (0, 0, 0, 0))
        self.tells(is_ladder(four), True, four)
        five_steps = [ladder for ladder in ladders_of(5, 5) if len(ladder) == 5]
        self.assertTrue(five_steps)
        for ladder in five_steps:
            self.tells(is_ladder(ladder), False, ladder)

    def test_first_puts_no_two_together(self):
        for first in steps_of(3):
            ladder = (first, (0, 0, 0))
            self.tells(is_ladder(ladder), first == (0, 1, 2), ladder)

    def test_last_puts_all_together(self):
        for last in steps_of(3):
            ladder = ((0, 1, 2), last)
            self.tells(is_ladder(ladder), last == (0, 0, 0), ladder)

    def test_next_keeps_together(self):
        parted = ((0, 1, 2, 3), (0, 0, 2, 3), (0, 1, 2, 2), (0, 0, 0, 0))
        self.tells(is_ladder(parted), False, parted)
        crossed = ((0, 1, 2, 3), (0, 1, 0, 1), (0, 0, 2, 2), (0, 0, 0, 0))
        self.tells(is_ladder(crossed), False, crossed)

    def test_next_puts_more_together(self):
        for again in ((0, 1, 2), (0, 0, 2), (0, 0, 0)):
            ladder = tuple(sorted(((0, 1, 2), (0, 0, 2), (0, 0, 0), again), reverse=True))
            self.tells(is_ladder(ladder), False, ladder)
        self.tells(is_ladder((THREE[0], THREE[0], THREE[2])), False, "the first one twice")
        self.tells(is_ladder((THREE[0], THREE[2], THREE[2])), False, "the last one twice")

    def test_steps_have_equally_many_values(self):
        for ladder in (((0, 1), (0, 0, 0)), ((0, 1, 2), (0, 0)), ((0, 1, 2), (0, 0), (0, 0, 0)),
                       ((0, 1, 2), (0, 0, 2, 3), (0, 0, 0)), ((0,), (0, 0)), ((0, 1), (0,))):
            self.tells(is_ladder(ladder), False, ladder)

    def test_number_is_that_of_the_least_value(self):
        for step in ((1, 1, 2), (0, 2, 2), (2, 1, 2), (0, 0, 1), (1, 0, 2), (1, 2, 0), (0, 0, 3), (0, -1, 2)):
            ladder = ((0, 1, 2), step, (0, 0, 0))
            self.tells(is_ladder(ladder), False, ladder)
        self.tells(is_ladder(((0, 1), (1, 1))), False, "the greatest value's number")
        self.tells(is_ladder(((1,),)), False, "no least value")

    def test_all_tuples_of_few_small_numbers(self):
        for values, numbers, most in ((1, range(-2, 3), 4), (2, range(-1, 3), 3), (3, range(3), 3)):
            steps = list(product(numbers, repeat=values))
            for many in range(1, most + 1):
                for ladder in product(steps, repeat=many):
                    self.as_listed(ladder)

    def test_all_rows_of_steps_from_first_to_last(self):
        for values in range(1, 6):
            first, last = tuple(range(values)), (0,) * values
            for many in range(3):
                for between in product(steps_of(values), repeat=many):
                    self.as_listed((first,) + between + (last,))

    def test_all_single_steps_between_of_small_numbers(self):
        for values in (4, 5):
            for step in product(range(values), repeat=values):
                self.as_listed((tuple(range(values)), step, (0,) * values))

    def test_truths_are_no_whole_numbers(self):
        for ladder in (((False,),), ((0, True), (0, 0)), ((0, 1), (0, False)), ((False, True), (False, False))):
            self.tells(is_ladder(ladder), False, ladder)

    def test_wrong_things(self):
        for thing in NOWHERE_RIGHT + [0, 1, (0,), (0, 1), ("01", "00"), ((("0",),),), (ONE,), (TWO, THREE)]:
            self.tells(is_ladder(thing), False, thing)

    def test_spoiled_ones(self):
        for ladder in (ONE, TWO, THREE, FIVE):
            for thing in spoiled(ladder):
                self.tells(is_ladder(thing), False, thing)


class Tables(Telling):
    def test_ordinary_ones(self):
        for table in TABLES:
            self.tells(is_table(table), True, table)

    def test_all_small_ones(self):
        for ladder in LADDERS:
            for value, secret in product(range(-1, 7), range(-1, 6)):
                table = ((ladder,), ((value,),), (secret,))
                right = 0 <= value < len(ladder[0]) and 0 <= secret <= 3
                self.tells(is_table(table), right, table)

    def test_one_to_three_ladders(self):
        for columns in range(7):
            table = ((TWO,) * columns, ((1,) * columns,), (0,))
            self.tells(is_table(table), 1 <= columns <= 3, table)

    def test_one_to_eight_rows(self):
        for many in range(20):
            table = ((TWO,), ((1,),) * many, (2,) * many)
            self.tells(is_table(table), 1 <= many <= 8, table)

    def test_a_value_for_each_column(self):
        for many in range(6):
            for place in range(8):
                table = with_part(WIDEST, (1, place), (0,) * many)
                self.tells(is_table(table), many == 3, table)

    def test_values_of_their_own_column(self):
        for row in product(range(-1, 6), repeat=3):
            right = 0 <= row[0] < 5 and 0 <= row[1] < 2 and 0 <= row[2] < 3
            for place in (0, 7):
                table = with_part(WIDEST, (1, place), row)
                self.tells(is_table(table), right, table)

    def test_a_secret_for_each_row(self):
        for rows, secrets in product(range(1, 9), range(11)):
            table = ((THREE,), ((2,),) * rows, (3,) * secrets)
            self.tells(is_table(table), rows == secrets, table)

    def test_secrets_from_0_to_3(self):
        for place, secret in product(range(8), range(-4, 9)):
            table = with_part(WIDEST, (2, place), secret)
            self.tells(is_table(table), 0 <= secret <= 3, table)

    def test_each_ladder_is_one(self):
        no_ladder = ((0, 1, 2), (0, 1, 2), (0, 0, 0))
        for place in range(3):
            self.tells(is_table(with_part(WIDEST, (0, place), no_ladder)), False, place)

    def test_three_parts(self):
        for table in TABLES:
            for thing in (table[:2], table[1:], table[:1], table + ((),), table + (0,), table + table[2:], table[::-1]):
                self.tells(is_table(thing), False, thing)

    def test_truths_are_no_whole_numbers(self):
        for path, part in (((1, 0, 0), False), ((1, 1, 0), True), ((2, 0), True), ((2, 1), False),
                           ((0, 0, 0, 1), True), ((0, 1, 2, 2), False)):
            self.tells(is_table(with_part(EXAMPLE, path, part)), False, path)

    def test_wrong_things(self):
        for thing in NOWHERE_RIGHT + [0, ONE, TWO, (TWO,), (0, 0, 0), ((), (), ()), "01/00 ; 0:1", (None, None, None)]:
            self.tells(is_table(thing), False, thing)

    def test_spoiled_ones(self):
        for table in TABLES:
            for thing in spoiled(table):
                self.tells(is_table(thing), False, thing)


class Ways(Telling):
    def test_all_small_ones(self):
        for table in TABLES:
            ladders = table[0]
            for columns in range(5):
                for way in product(range(-1, 5), repeat=columns):
                    right = columns == len(ladders) and all(
                        0 <= number < len(ladder) for number, ladder in zip(way, ladders))
                    self.tells(is_way(table, way), right, way)

    def test_a_number_of_a_step_of_its_own_ladder(self):
        self.tells(is_way(EXAMPLE, (1, 2)), True, "both last steps")
        self.tells(is_way(EXAMPLE, (2, 1)), False, "the ladders changed places")
        self.tells(is_way(SMALLEST, (0,)), True, "the only step")
        self.tells(is_way(SMALLEST, (1,)), False, "one value has just one step")

    def test_steps_are_counted_not_values(self):
        table = ((((0, 1, 2, 3, 4), (0, 0, 0, 0, 0)),), ((4,),), (0,))
        self.assertEqual([number for number in range(9) if is_way(table, (number,))], [0, 1])

    def test_tables_with_more_rows(self):
        table = ((TWO,), ((1,),) * 12, (0,) * 12)
        self.tells(is_way(table, (1,)), True, table)
        self.tells(is_way(table, (2,)), False, table)

    def test_wrong_things(self):
        for table in TABLES:
            for thing in NOWHERE_RIGHT + [0, 1, "00", "000", table, table[0], None, list((0,) * len(table[0]))]:
                self.tells(is_way(table, thing), False, thing)

    def test_spoiled_ones(self):
        for table in TABLES:
            for thing in spoiled((0,) * len(table[0])):
                self.tells(is_way(table, thing), False, thing)


class AskedAgain(unittest.TestCase):
    def test_nothing_is_changed_and_the_same_is_told(self):
        for table in TABLES:
            for thing in [table, table[0][0], (0,) * len(table[0])] + list(spoiled(table)):
                before = copy.deepcopy(thing)
                first = (is_ladder(thing), is_table(thing), is_way(table, thing))
                again = (is_ladder(thing), is_table(thing), is_way(table, thing))
                self.assertEqual(first, again)
                self.assertEqual(repr(thing), repr(before))


if __name__ == "__main__":
    unittest.main()
