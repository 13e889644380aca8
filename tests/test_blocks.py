"""[18] blocks; block_files and block_of are tested beside plans."""

import copy
import unittest

from countedonce.blocks import blocks_of, cut_rows, homes_of

ROWS = [(number, "r") for number in range(11)]


class Cutting(unittest.TestCase):
    def test_as_equal_as_can_be_the_first_ones_the_longer(self):
        self.assertEqual(cut_rows(ROWS[:7], 3), [tuple(ROWS[:3]), tuple(ROWS[3:5]), tuple(ROWS[5:7])])
        for long in range(12):
            for many in range(1, 15):
                for rows in (ROWS[:long], tuple(ROWS[:long])):
                    blocks = cut_rows(rows, many)
                    self.assertIsInstance(blocks, list)
                    self.assertEqual(len(blocks), many)
                    sizes = [len(block) for block in blocks]
                    self.assertLessEqual(max(sizes) - min(sizes), 1)
                    self.assertEqual(sizes, sorted(sizes, reverse=True))
                    self.assertTrue(all(type(block) is tuple for block in blocks))
                    self.assertEqual([row for block in blocks for row in block], ROWS[:long])

    def test_more_blocks_than_rows_and_no_rows(self):
        self.assertEqual(cut_rows([(1,), (2,)], 4), [((1,),), ((2,),), (), ()])
        self.assertEqual(cut_rows([], 2), [(), ()])
        self.assertEqual(cut_rows((), 1), [()])

    def test_all_tables(self):
        data = {"a": ROWS[:3], "b": ROWS[:2], "c": []}
        kept = copy.deepcopy(data)
        told = blocks_of(data, {"a": 2, "z": 5})
        self.assertEqual(told, {"a": [tuple(ROWS[:2]), tuple(ROWS[2:3])], "b": [tuple(ROWS[:2])], "c": [()]})
        self.assertEqual(data, kept)
        self.assertEqual(blocks_of({}, {"a": 2}), {})


class Homes(unittest.TestCase):
    def test_homes(self):
        self.assertEqual(homes_of(0, 1, 1), (0,))
        self.assertEqual(homes_of(0, 2, 5), (0, 1))
        self.assertEqual(homes_of(4, 2, 5), (4, 0))
        self.assertEqual(homes_of(5, 2, 5), (0, 1))
        self.assertEqual(homes_of(13, 3, 5), (3, 4, 0))
        self.assertEqual(homes_of(7, 1, 3), (1,))

    def test_more_copies_than_machines(self):
        self.assertEqual(homes_of(0, 9, 3), (0, 1, 2))
        self.assertEqual(homes_of(5, 4, 3), (2, 0, 1))
        self.assertEqual(homes_of(1, 3, 3), (1, 2, 0))
        self.assertEqual(homes_of(8, 2, 1), (0,))


if __name__ == "__main__":
    unittest.main()
