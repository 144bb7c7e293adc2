import random
import unittest

from farhaul.weaving.blocks import spread, time_of, unwoven, woven
from reference import fresh, raises

SIZES = [(rows, columns) for rows in range(1, 7) for columns in range(1, 7)]
BAD = (0, -1, 301, 302, 2 ** 40, -(2 ** 40))


class TestWeaving(unittest.TestCase):
    def test_times(self):
        for rows, columns in SIZES + [(1, 300), (300, 1), (17, 23)]:
            items = [10 * k + 3 for k in range(rows * columns)]
            sent = fresh(self, woven, rows, columns, items)
            self.assertEqual(len(sent), len(items))
            for i in range(rows):
                for j in range(columns):
                    self.assertEqual(sent[j * rows + i], items[i * columns + j])
                    self.assertEqual(time_of(rows, columns, i * columns + j), j * rows + i)

    def test_known_block(self):
        self.assertEqual(woven(2, 3, [0, 1, 2, 3, 4, 5]), [0, 3, 1, 4, 2, 5])
        self.assertEqual(unwoven(2, 3, [0, 1, 2, 3, 4, 5]), [0, 2, 4, 1, 3, 5])
        self.assertEqual([time_of(2, 3, k) for k in range(6)], [0, 2, 4, 1, 3, 5])

    def test_both_undo_each_other(self):
        rng = random.Random(401)
        for rows, columns in SIZES + [(16, 255), (255, 16), (300, 300)]:
            for items in ([rng.choice((None, 0, 1, -5, 2 ** 32 - 1)) for _ in range(rows * columns)],
                          [None] * (rows * columns)):
                sent = woven(rows, columns, items)
                self.assertEqual(unwoven(rows, columns, sent), items)
                self.assertEqual(woven(rows, columns, unwoven(rows, columns, items)), items)
        for items in (["a", None, (1, 2), 7], [(0, None)] * 4):
            self.assertEqual(fresh(self, unwoven, 2, 2, fresh(self, woven, 2, 2, items)), items)

    def test_numbers_out_of_range(self):
        for bad in BAD:
            for other in (1, 300, 0, 301, -1):
                for items in ([], [1] * 300):
                    raises(self, "OutOfRange", 0, woven, bad, other, items)
                    raises(self, "OutOfRange", 0, unwoven, bad, other, items)
                for third in (0, -1, 2 ** 40):
                    raises(self, "OutOfRange", 0, time_of, bad, other, third)
                    raises(self, "OutOfRange", 0, spread, bad, other, third)
            for rows in (1, 300):
                for items in ([], [1] * 300):
                    raises(self, "OutOfRange", 1, woven, rows, bad, items)
                    raises(self, "OutOfRange", 1, unwoven, rows, bad, items)
                for third in (0, -1, 2 ** 40):
                    raises(self, "OutOfRange", 1, time_of, rows, bad, third)
                    raises(self, "OutOfRange", 1, spread, rows, bad, third)

    def test_wrong_numbers_of_items(self):
        for rows, columns in SIZES + [(300, 300)]:
            many = rows * columns
            for size in (0, many - 1, many + 1, 2 * many):
                raises(self, "WrongSize", 0, woven, rows, columns, [1] * size)
                raises(self, "WrongSize", 0, unwoven, rows, columns, [1] * size)

    def test_wrong_places(self):
        for rows, columns in SIZES + [(300, 300)]:
            many = rows * columns
            self.assertEqual((time_of(rows, columns, 0), time_of(rows, columns, many - 1)), (0, many - 1))
            for index in (-1, -many, many, many + 1, 2 ** 40, -(2 ** 40)):
                raises(self, "WrongPlace", 0, time_of, rows, columns, index)


class TestSpread(unittest.TestCase):
    def test_against_counting(self):
        for rows, columns in SIZES:
            many = rows * columns
            row_at = woven(rows, columns, [k // columns for k in range(many)])
            for burst in range(many + 1):
                known = max(max(row_at[start:start + burst].count(row) for row in range(rows))
                            for start in range(many - burst + 1))
                self.assertEqual(spread(rows, columns, burst), known)
                self.assertEqual(row_at[:burst].count(0), known)

    def test_bursts_out_of_range(self):
        for rows, columns in SIZES + [(300, 300)]:
            many = rows * columns
            self.assertEqual((spread(rows, columns, 0), spread(rows, columns, many)), (0, columns))
            for burst in (-1, -many, many + 1, 2 ** 40, -(2 ** 40)):
                raises(self, "OutOfRange", 2, spread, rows, columns, burst)
