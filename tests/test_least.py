import copy
import unittest
from itertools import combinations

from amongalike.least import greatest_unsafe, is_paper, least_loss, least_safe
from amongalike.showing import is_safe, loss
from samples import (
    ALL_ALIKE, EXAMPLE, FIVE, FOUR_ROWS, MANY_ROWS, NOWHERE_RIGHT, NO_TWO_ALIKE, ONE_ROW, ONE_VALUE, SHOWN_TABLES,
    SMALLEST, THREE, TWO, WIDEST, as_lists, spoiled, ways_of, with_part,
)

# The way that loses least is not the first safe one, as ways rise.
LATER = ((TWO, FIVE), ((0, 0), (1, 0), (0, 1), (1, 1)), (0, 0, 0, 0))


def coarser_told(one, other):
    return one != other and all(mine >= its for mine, its in zip(one, other))


def parted(table, many):
    ways = ways_of(table)
    safe = [way for way in ways if is_safe(table, way, many)]
    return safe, [way for way in ways if way not in safe]


def samples_with_many():
    for table in SHOWN_TABLES:
        for many in list(range(10)) + [len(table[1]), len(table[1]) + 1, len(table[1]) + 50]:
            yield table, many


def subsets(ways):
    return [chosen for many in range(len(ways) + 1) for chosen in combinations(ways, many)]


def paper_told(table, many, safe_ones, others):
    safe, unsafe = parted(table, many)
    if not set(safe_ones) <= set(safe) or not set(others) <= set(unsafe):
        return False
    return all(
        any(way == one or coarser_told(way, one) for one in safe_ones)
        or any(way == other or coarser_told(other, way) for other in others)
        for way in ways_of(table))


class LeastSafe(unittest.TestCase):
    def test_ordinary_ones(self):
        self.assertEqual(least_safe(FOUR_ROWS, 2), ((0, 1), (1, 0)))
        self.assertEqual(least_safe(FOUR_ROWS, 3), ((1, 1),))
        self.assertEqual(least_safe(EXAMPLE, 2), ((1, 2),))
        self.assertEqual(least_safe(NO_TWO_ALIKE, 2), ((3,),))
        self.assertEqual(least_safe(LATER, 2), ((0, 3), (1, 0)))

    def test_as_the_document_says(self):
        for table, many in samples_with_many():
            safe = parted(table, many)[0]
            told = [way for way in safe if not any(coarser_told(way, other) for other in safe)]
            self.assertEqual(repr(least_safe(table, many)), repr(tuple(sorted(told))))

    def test_no_way_is_safe(self):
        for table in SHOWN_TABLES:
            for more in (1, 2, 100):
                self.assertEqual(least_safe(table, len(table[1]) + more), ())

    def test_each_way_is_safe(self):
        for table in SHOWN_TABLES:
            for many in (-1, 0, 1):
                self.assertEqual(least_safe(table, many), ((0,) * len(table[0]),))
        self.assertEqual(least_safe(ALL_ALIKE, 5), ((0, 0),))
        self.assertEqual(least_safe(ONE_VALUE, 4), ((0, 0),))


class GreatestUnsafe(unittest.TestCase):
    def test_ordinary_ones(self):
        self.assertEqual(greatest_unsafe(FOUR_ROWS, 2), ((0, 0),))
        self.assertEqual(greatest_unsafe(FOUR_ROWS, 3), ((0, 1), (1, 0)))
        self.assertEqual(greatest_unsafe(EXAMPLE, 2), ((0, 2), (1, 1)))
        self.assertEqual(greatest_unsafe(NO_TWO_ALIKE, 2), ((2,),))
        self.assertEqual(greatest_unsafe(LATER, 2), ((0, 2),))

    def test_as_the_document_says(self):
        for table, many in samples_with_many():
            unsafe = parted(table, many)[1]
            told = [way for way in unsafe if not any(coarser_told(other, way) for other in unsafe)]
            self.assertEqual(repr(greatest_unsafe(table, many)), repr(tuple(sorted(told))))

    def test_no_way_is_safe(self):
        for table in SHOWN_TABLES:
            last = tuple(len(ladder) - 1 for ladder in table[0])
            for more in (1, 2, 100):
                self.assertEqual(greatest_unsafe(table, len(table[1]) + more), (last,))

    def test_each_way_is_safe(self):
        for table in SHOWN_TABLES:
            for many in (-1, 0, 1):
                self.assertEqual(greatest_unsafe(table, many), ())
        self.assertEqual(greatest_unsafe(ALL_ALIKE, 5), ())
        self.assertEqual(greatest_unsafe(ONE_VALUE, 4), ())


class LeastLoss(unittest.TestCase):
    def test_ordinary_ones(self):
        self.assertEqual(least_loss(EXAMPLE, 2), (6, (1, 2)))
        self.assertEqual(least_loss(NO_TWO_ALIKE, 2), (20, (3,)))
        self.assertEqual(least_loss(SMALLEST, 1), (0, (0,)))

    def test_the_least_one_need_not_be_the_first_safe_one(self):
        self.assertIs(is_safe(LATER, (0, 3), 2), True)
        self.assertEqual(least_loss(LATER, 2), (4, (1, 0)))

    def test_of_several_the_first_one(self):
        self.assertEqual(loss(FOUR_ROWS, (0, 1)), loss(FOUR_ROWS, (1, 0)))
        self.assertEqual(least_loss(FOUR_ROWS, 2), (4, (0, 1)))
        # A step may lose nothing where its values stand in no row.
        table = ((THREE,), ((2,), (2,)), (0, 1))
        self.assertEqual((loss(table, (0,)), loss(table, (1,))), (0, 0))
        self.assertEqual(least_loss(table, 2), (0, (0,)))

    def test_as_the_document_says(self):
        ties = 0
        for table, many in samples_with_many():
            safe = parted(table, many)[0]
            if not safe:
                self.assertIsNone(least_loss(table, many))
                continue
            least = min(loss(table, way) for way in safe)
            with_it = [way for way in safe if loss(table, way) == least]
            ties += len(with_it) > 1
            self.assertEqual(repr(least_loss(table, many)), repr((least, min(with_it))))
        self.assertGreater(ties, 20)

    def test_no_way_is_safe(self):
        for table in SHOWN_TABLES:
            for more in (1, 2, 100):
                self.assertIsNone(least_loss(table, len(table[1]) + more))

    def test_each_way_is_safe(self):
        for table in SHOWN_TABLES:
            for many in (-1, 0, 1):
                self.assertEqual(least_loss(table, many), (0, (0,) * len(table[0])))

    def test_no_safe_way_loses_less(self):
        for table, many in samples_with_many():
            told = least_loss(table, many)
            if told is not None:
                self.assertIs(is_safe(table, told[1], many), True)
                self.assertEqual(loss(table, told[1]), told[0])
                for way in parted(table, many)[0]:
                    self.assertGreaterEqual(loss(table, way), told[0])


class Papers(unittest.TestCase):
    def tells(self, table, many, thing, expected):
        answer = is_paper(table, many, thing)
        if answer is not expected:
            self.fail(f"{answer!r} was told of {thing!r} for {many!r} by {table!r}")

    def test_the_least_safe_and_the_greatest_unsafe_ones(self):
        for table, many in samples_with_many():
            self.tells(table, many, (least_safe(table, many), greatest_unsafe(table, many)), True)

    def test_all_safe_ones_and_all_others(self):
        for table, many in samples_with_many():
            safe, unsafe = parted(table, many)
            self.tells(table, many, (tuple(safe), tuple(unsafe)), True)
            self.tells(table, many, (tuple(reversed(safe)) * 2, tuple(unsafe) * 3), True)

    def test_with_one_left_out(self):
        for table, many in samples_with_many():
            least, greatest = least_safe(table, many), greatest_unsafe(table, many)
            for way in least:
                self.tells(table, many, (tuple(one for one in least if one != way), greatest), False)
            for way in greatest:
                self.tells(table, many, (least, tuple(one for one in greatest if one != way)), False)

    def test_with_one_on_the_wrong_side(self):
        for table, many in samples_with_many():
            least, greatest = least_safe(table, many), greatest_unsafe(table, many)
            safe, unsafe = parted(table, many)
            for way in unsafe:
                self.tells(table, many, (least + (way,), greatest), False)
                self.tells(table, many, ((way,) + least, greatest), False)
            for way in safe:
                self.tells(table, many, (least, greatest + (way,)), False)
                self.tells(table, many, (least, (way,) + greatest), False)
            if least != greatest:
                self.tells(table, many, (greatest, least), False)

    def test_a_paper_parts_all_ways(self):
        for table, many in samples_with_many():
            safe_ones, others = least_safe(table, many), greatest_unsafe(table, many)
            for way in ways_of(table):
                above = any(way == one or coarser_told(way, one) for one in safe_ones)
                below = any(way == other or coarser_told(other, way) for other in others)
                self.assertIs(is_safe(table, way, many), above)
                self.assertIs(not is_safe(table, way, many), below)

    def test_all_pairs_of_ways_of_small_tables(self):
        for table in (SMALLEST, ONE_VALUE, NO_TWO_ALIKE, FOUR_ROWS):
            chosen = subsets(ways_of(table))
            for many in range(6):
                for safe_ones in chosen:
                    for others in chosen:
                        expected = paper_told(table, many, safe_ones, others)
                        self.tells(table, many, (safe_ones, others), expected)

    def test_all_pairs_of_ways_of_the_example(self):
        chosen = subsets(ways_of(EXAMPLE))
        for safe_ones in chosen:
            for others in chosen:
                self.tells(EXAMPLE, 2, (safe_ones, others), paper_told(EXAMPLE, 2, safe_ones, others))

    def test_no_way_or_each_way_is_safe(self):
        for table in SHOWN_TABLES:
            first = (0,) * len(table[0])
            last = tuple(len(ladder) - 1 for ladder in table[0])
            self.tells(table, len(table[1]) + 1, ((), (last,)), True)
            self.tells(table, len(table[1]) + 1, ((last,), ()), False)
            for many in (0, 1):
                self.tells(table, many, ((first,), ()), True)
                self.tells(table, many, ((), (first,)), False)
            for many in (0, 1, len(table[1]) + 1):
                self.tells(table, many, ((), ()), False)

    def test_it_is_a_paper_for_its_own_number_alone(self):
        paper = (least_safe(FOUR_ROWS, 2), greatest_unsafe(FOUR_ROWS, 2))
        self.assertEqual([many for many in range(7) if is_paper(FOUR_ROWS, many, paper)], [2])

    def test_ways_of_another_form(self):
        paper = (((0, 1), (1, 0)), ((0, 0),))
        self.tells(FOUR_ROWS, 2, paper, True)
        for wrong in ((), (0,), (1,), (1, 1, 1), (2, 1), (1, 2), (-1, 0), (1, -1), (9, 9), (True, 1), (1, True),
                      ("1", 1), (1, None), [1, 1], ((1, 1),), "11", 11, None, True):
            self.tells(FOUR_ROWS, 2, (paper[0] + (wrong,), paper[1]), False)
            self.tells(FOUR_ROWS, 2, (paper[0], paper[1] + (wrong,)), False)
            self.tells(FOUR_ROWS, 2, ((wrong,) + paper[0], paper[1]), False)

    def test_truths_are_no_whole_numbers(self):
        paper = (((0, 1), (1, 0)), ((0, 0),))
        for path, part in (((0, 0, 0), False), ((0, 0, 1), True), ((0, 1, 0), True), ((1, 0, 1), False)):
            self.tells(FOUR_ROWS, 2, with_part(paper, path, part), False)

    def test_lists_stand_nowhere(self):
        for table, many in ((FOUR_ROWS, 2), (EXAMPLE, 2), (WIDEST, 3), (MANY_ROWS, 2), (ONE_ROW, 2), (ONE_ROW, 1)):
            paper = (least_safe(table, many), greatest_unsafe(table, many))
            self.tells(table, many, paper, True)
            for thing in (list(paper), as_lists(paper), (list(paper[0]), paper[1]), (paper[0], list(paper[1])),
                          (paper[0], as_lists(paper[1]) + [[]]), ([list(way) for way in paper[0]], paper[1])):
                self.tells(table, many, thing, False)

    def test_no_pairs(self):
        paper = (least_safe(FOUR_ROWS, 2), greatest_unsafe(FOUR_ROWS, 2))
        for thing in (paper[:1], paper[1:], paper + ((),), paper + paper, (paper,), paper[0], FOUR_ROWS, repr(paper),
                      "ab", "  ", (0, 1), ("", ""), (None, None), (True, False), {}, dict([paper])):
            self.tells(FOUR_ROWS, 2, thing, False)

    def test_wrong_things(self):
        for table in SHOWN_TABLES:
            for many in (0, 2, len(table[1]) + 1):
                for thing in NOWHERE_RIGHT + [0, 1, table, table[0], (0, 0)]:
                    self.tells(table, many, thing, False)

    def test_spoiled_ones(self):
        for table, many in ((FOUR_ROWS, 2), (FOUR_ROWS, 3), (EXAMPLE, 2), (LATER, 2), (NO_TWO_ALIKE, 3)):
            paper = (least_safe(table, many), greatest_unsafe(table, many))
            self.assertTrue(paper[0] and paper[1])
            for thing in spoiled(paper):
                self.tells(table, many, thing, False)


class AskedAgain(unittest.TestCase):
    def test_nothing_is_changed_and_the_same_is_told(self):
        for table, many in samples_with_many():
            before = copy.deepcopy(table)
            told = []
            for time in range(2):
                paper = (least_safe(table, many), greatest_unsafe(table, many))
                told.append(repr((paper, least_loss(table, many), is_paper(table, many, paper))))
            self.assertEqual(told[0], told[1])
            self.assertEqual(repr(table), repr(before))

    def test_wrong_things_are_not_changed(self):
        for thing in spoiled((((0, 1), (1, 0)), ((0, 0),))):
            before = copy.deepcopy(thing)
            self.assertIs(is_paper(FOUR_ROWS, 2, thing), is_paper(FOUR_ROWS, 2, thing))
            self.assertEqual(repr(thing), repr(before))


if __name__ == "__main__":
    unittest.main()
