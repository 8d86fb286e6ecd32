"""Promises 11 and 12: figures to a pace, and blocks; promise 3: told lists are the asker's own."""

import unittest

from halfpace.figures import blocks, figures_of, number_of

PACES = (2, 3, 4)
FAR = 10 ** 80


def odd_numbers(pace):
    """Powers of the pace and their neighbours, and more, up to 10 ** 80."""
    numbers = list(range(300)) + [10 ** 18, 10 ** 40 - 1, 123456789 ** 9, FAR - 1, FAR]
    for power in range(1, 267):
        for near in (-1, 0, 1):
            if pace ** power + near <= FAR:
                numbers.append(pace ** power + near)
    return numbers


class Figures(unittest.TestCase):
    def test_nought_has_no_figures(self):
        for pace in PACES:
            self.assertEqual(figures_of(0, pace), [])

    def test_small_numbers(self):
        self.assertEqual([figures_of(n, 2) for n in range(1, 6)], [[1], [1, 0], [1, 1], [1, 0, 0], [1, 0, 1]])
        self.assertEqual([figures_of(n, 3) for n in range(1, 7)], [[1], [2], [1, 0], [1, 1], [1, 2], [2, 0]])
        self.assertEqual([figures_of(n, 4) for n in range(1, 7)], [[1], [2], [3], [1, 0], [1, 1], [1, 2]])
        self.assertEqual(figures_of(27, 4), [1, 2, 3])

    def test_powers_and_their_neighbours(self):
        for pace in PACES:
            power = 1
            while pace ** power < FAR:
                self.assertEqual(figures_of(pace ** power - 1, pace), [pace - 1] * power)
                self.assertEqual(figures_of(pace ** power, pace), [1] + [0] * power)
                self.assertEqual(figures_of(pace ** power + 1, pace), [1] + [0] * (power - 1) + [1])
                power += 1

    def test_figures_are_what_a_number_is_the_sum_of(self):
        for pace in PACES:
            for number in odd_numbers(pace):
                figures = figures_of(number, pace)
                self.assertIs(type(figures), list)
                self.assertTrue(all(type(rest) is int and 0 <= rest < pace for rest in figures))
                self.assertNotEqual(figures[:1], [0])
                worth = sum(rest * pace ** place for place, rest in enumerate(reversed(figures)))
                self.assertEqual(worth, number)

    def test_python_writes_the_same_figures(self):
        for number in odd_numbers(2):
            self.assertEqual(figures_of(number, 2), [int(sign) for sign in f"{number:b}"] if number else [])


class Numbers(unittest.TestCase):
    def test_no_figures_are_nought(self):
        for pace in PACES:
            self.assertEqual(number_of([], pace), 0)
            self.assertIs(type(number_of([], pace)), int)

    def test_small_lists(self):
        self.assertEqual(number_of([1, 0, 1], 2), 5)
        self.assertEqual(number_of([2, 1], 3), 7)
        self.assertEqual(number_of([1, 2, 3], 4), 27)
        self.assertEqual(number_of([3], 4), 3)

    def test_noughts_ahead_are_left_out(self):
        for pace in PACES:
            for many in (1, 2, 7, 300):
                self.assertEqual(number_of([0] * many, pace), 0)
            for number in odd_numbers(pace):
                figures = figures_of(number, pace)
                for many in (1, 2, 300 - len(figures)):
                    self.assertEqual(number_of([0] * many + figures, pace), number)

    def test_long_lists(self):
        for pace in PACES:
            self.assertEqual(number_of([pace - 1] * 300, pace), pace ** 300 - 1)
            self.assertEqual(number_of([1] + [0] * 299, pace), pace ** 299)

    def test_the_one_is_back_from_the_other(self):
        for pace in PACES:
            for number in odd_numbers(pace):
                self.assertEqual(number_of(figures_of(number, pace), pace), number)
            for figures in ([], [1], [pace - 1], [1, 0, 0], [1] + [0, pace - 1] * 60, [pace - 1] + [0] * 120):
                self.assertEqual(figures_of(number_of(figures, pace), pace), figures)
                self.assertEqual(figures_of(number_of([0, 0] + figures, pace), pace), figures)

    def test_what_is_handed_in_is_not_changed(self):
        figures = [0, 0, 1, 0, 1]
        number_of(figures, 2)
        self.assertEqual(figures, [0, 0, 1, 0, 1])


def blocks_within(first, last, pace):
    """Every block that holds no number but those from first to last."""
    found = []
    for level in range(12):
        for many in range(last // pace ** level + 1):
            if first <= many * pace ** level and (many + 1) * pace ** level - 1 <= last:
                found.append((many, level))
    return found


def fewest(first, last, pace):
    """The fewest blocks side by side, found by trying all of them."""
    best = {last + 1: []}
    within = blocks_within(first, last, pace)
    for number in range(last, first - 1, -1):
        rows = []
        for many, level in within:
            if many * pace ** level == number:
                rows.append([(many, level)] + best[(many + 1) * pace ** level])
        best[number] = min(rows, key=len)
    return best[first]


class Blocks(unittest.TestCase):
    def check(self, first, last, pace):
        """Whether the blocks lie side by side and no block around one of them would do, too."""
        told = blocks(first, last, pace)
        self.assertIs(type(told), list)
        expected = first
        for block in told:
            self.assertIs(type(block), tuple)
            many, level = block
            self.assertTrue(type(many) is int and type(level) is int and many >= 0 and level >= 0)
            self.assertEqual(many * pace ** level, expected)
            expected = (many + 1) * pace ** level
            around = many // pace
            inside = first <= around * pace ** (level + 1) and (around + 1) * pace ** (level + 1) - 1 <= last
            self.assertFalse(inside, (first, last, pace, block))
        self.assertEqual(expected, last + 1)

    def test_one_number_alone(self):
        for pace in PACES:
            for number in (0, 1, 2, 3, 4, 8, 9, 16, 27, 64, 10 ** 18, FAR - 1, FAR):
                self.assertEqual(blocks(number, number, pace), [(number, 0)])

    def test_from_nought_to_a_power_less_one_is_one_block(self):
        for pace in PACES:
            power = 0
            while pace ** power - 1 <= FAR:
                self.assertEqual(blocks(0, pace ** power - 1, pace), [(0, power)])
                power += 1

    def test_a_whole_block_is_one(self):
        for pace in PACES:
            for many in (0, 1, 2, 3, 5, 8, 63, 10 ** 20):
                for level in (0, 1, 2, 5, 40):
                    first = many * pace ** level
                    self.assertEqual(blocks(first, first + pace ** level - 1, pace), [(many, level)])

    def test_small_ranges_as_written_by_hand(self):
        self.assertEqual(blocks(0, 1, 2), [(0, 1)])
        self.assertEqual(blocks(1, 2, 2), [(1, 0), (2, 0)])
        self.assertEqual(blocks(1, 6, 2), [(1, 0), (1, 1), (2, 1), (6, 0)])
        self.assertEqual(blocks(0, 4, 2), [(0, 2), (4, 0)])
        self.assertEqual(blocks(2, 9, 3), [(2, 0), (1, 1), (2, 1), (9, 0)])
        self.assertEqual(blocks(3, 16, 4), [(3, 0), (1, 1), (2, 1), (3, 1), (16, 0)])

    def test_small_ranges_against_all_rows_of_blocks(self):
        for pace in PACES:
            for first in range(36):
                for last in range(first, 36):
                    self.assertEqual(blocks(first, last, pace), fewest(first, last, pace), (first, last, pace))

    def test_ends_in_different_great_blocks(self):
        for pace in PACES:
            for power in (3, 7, 20, 60, 120):
                middle = pace ** power
                for before in (1, 2, pace, pace + 1, pace ** 2 - 1, middle):
                    for behind in (0, 1, pace - 1, pace, pace ** 3 + 1, middle * (pace - 1) - 1):
                        self.check(middle - before, middle + behind, pace)

    def test_far_ranges(self):
        for pace in PACES:
            for first in (0, 1, pace - 1, pace, 10 ** 18, 10 ** 40 + 7, 3 * 10 ** 79, FAR - 1, FAR):
                for last in (FAR, FAR - 1, 10 ** 79 + 1, 10 ** 40 + 7, 10 ** 18):
                    if first <= last:
                        self.check(first, last, pace)

    def test_the_widest_range_takes_few_blocks(self):
        for pace in PACES:
            longest = len(figures_of(FAR, pace))
            self.assertLessEqual(len(blocks(1, FAR, pace)), 2 * (pace - 1) * longest)


class OwnLists(unittest.TestCase):
    def test_a_told_list_that_is_changed_leaves_the_next_as_it_was(self):
        for number in (0, 1, 5, 10 ** 18):
            told = figures_of(number, 2)
            kept = list(told)
            again = figures_of(number, 2)
            told.append(1)
            told[0] = 7
            self.assertEqual(again, kept)
            self.assertEqual(figures_of(number, 2), kept)
            self.assertIsNot(figures_of(number, 2), figures_of(number, 2))

    def test_told_blocks_that_are_changed_leave_the_next_as_they_were(self):
        for first, last in ((0, 0), (0, 7), (1, 6), (5, 10 ** 18)):
            told = blocks(first, last, 2)
            kept = list(told)
            again = blocks(first, last, 2)
            told.append((9, 9))
            told[0] = None
            self.assertEqual(again, kept)
            self.assertEqual(blocks(first, last, 2), kept)
            self.assertIsNot(blocks(first, last, 2), blocks(first, last, 2))
