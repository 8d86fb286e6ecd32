"""What promises 41, 42 and 52 stand on: counts of rows of rests, and the waits found by them."""

import itertools
import unittest

from halfpace.counts import counts, counts_from, least_from, many_to, wait_of
from tests.slow import (
    all_standings, chances, has_it, made_choir, made_chord, made_standing, rising_choir, slow_behind, slow_led,
)


class Counts(unittest.TestCase):
    def test_rows_of_each_length(self):
        for chance in chances(12, 1):
            choir = made_choir(chance, many=1)
            chord = made_chord(chance, choir, 1)
            levels = counts(choir, chord, 4)
            self.assertEqual(len(levels), 5)
            for many, level in enumerate(levels):
                self.assertEqual(sorted(level), all_standings(choir))
                for standing in level:
                    found = 0
                    for row in itertools.product(range(choir.pace()), repeat=many):
                        led = standing
                        for rest in row:
                            led = slow_led(choir, led, rest)
                        found += has_it(choir, led, chord)
                    self.assertIs(type(level[standing]), int)
                    self.assertEqual(level[standing], found)

    def test_waits_one_by_one(self):
        for chance in chances(20, 2):
            choir = made_choir(chance) if chance.random() < 0.5 else rising_choir(chance)
            root = made_standing(chance, choir)
            chord = made_chord(chance, choir)
            last = 200
            found = [wait for wait in range(last + 1) if has_it(choir, slow_behind(choir, root, wait), chord)]
            levels = counts(choir, chord, 8)
            for wait in range(last + 1):
                self.assertEqual(many_to(choir, levels, root, wait), sum(other <= wait for other in found))
            for number, wait in enumerate(found):
                self.assertEqual(wait_of(choir, levels, root, number), wait)
            enough = counts_from(choir, chord, last)
            for start in range(last + 1):
                told = least_from(choir, enough, root, start)
                if start in (0, 1, 5, 64, 100):
                    self.assertEqual(told, least_from(choir, counts_from(choir, chord, start), root, start))
                if [wait for wait in found if wait >= start]:
                    self.assertEqual(told, min(wait for wait in found if wait >= start))
                else:
                    self.assertTrue(told is None or told > last)
