"""[16] sums of keys."""

import unittest

from countedonce.keysums import key_sum
from tests import makers

KEYS = [(), (0,), (1,), (-1,), ("",), ("a",), ("b",), ("ab",), ("ba",), ("a", "b"), (1, "a"), ("a", 1), (2 ** 63 - 1,),
        (-2 ** 63,), (-2 ** 63, 5), ("q" * 500,), ("\u20ac\U0001f600",)]


class Sums(unittest.TestCase):
    def test_a_number_from_0_the_same_for_equal_keys(self):
        for key in KEYS:
            told = key_sum(key)
            self.assertIs(type(told), int)
            self.assertGreaterEqual(told, 0)
            again = tuple([value if isinstance(value, int) else "".join(list(value)) for value in key])
            self.assertEqual(key_sum(again), told)

    def test_random_keys(self):
        rng = makers.source(1)
        for _ in range(500):
            key = tuple([rng.choice((rng.randint(-2 ** 63, 2 ** 63 - 1), "x" * rng.randint(0, 9)))
                         for _ in range(rng.randint(0, 4))])
            self.assertGreaterEqual(key_sum(key), 0)
            self.assertEqual(key_sum(key), key_sum(tuple(list(key))))

    def test_keys_go_into_all_pieces(self):
        words = [("word" + str(number),) for number in range(400)]
        for keys in ([(number,) for number in range(400)], [(number * 60, 0) for number in range(400)], words):
            for pieces in (2, 3, 5):
                many = [0] * pieces
                for key in keys:
                    many[key_sum(key) % pieces] += 1
                self.assertLess(max(many), 2 * 400 // pieces)


if __name__ == "__main__":
    unittest.main()
