import itertools
import random
import unittest

from farhaul.bch.recurrences import check_shortest, makes, shortest
from farhaul.fields.field import Field
from reference import all_fields, fresh, small_fields


def slow_makes(field, recurrence, items):
    length = len(recurrence) - 1
    for k in range(length, len(items)):
        total = 0
        for i in range(length + 1):
            total ^= field.times(recurrence[i], items[k - i])
        if total != 0:
            return False
    return True


def slow_span(field, items):
    """The span, by trying all recurrences."""
    for length in range(len(items) + 1):
        for rest in itertools.product(range(field.size()), repeat=length):
            if slow_makes(field, [1] + list(rest), items):
                return length


def is_form(field, numbers):
    return len(numbers) > 0 and numbers[0] == 1 and all(number in range(field.size()) for number in numbers)


def passes(field, items, recurrence, paper):
    """The check of point 1103, by its words."""
    if not is_form(field, recurrence) or not slow_makes(field, recurrence, items):
        return False
    if paper is None:
        return len(recurrence) - 1 == 0
    k, earlier = paper
    if k not in range(len(items)) or not is_form(field, earlier):
        return False
    if not slow_makes(field, earlier, items[:k]) or slow_makes(field, earlier, items[:k + 1]):
        return False
    return len(recurrence) - 1 <= k + 1 - (len(earlier) - 1)


class TestRecurrences(unittest.TestCase):
    def test_makes(self):
        for field in small_fields():
            rng = random.Random(field.modulus())
            for _ in range(150):
                recurrence = [1] + [rng.randrange(field.size()) for _ in range(rng.randrange(4))]
                items = [rng.randrange(field.size()) for _ in range(rng.randrange(5))]
                self.assertIs(fresh(self, makes, field, recurrence, items), slow_makes(field, recurrence, items))

    def test_made_lists(self):
        for field in all_fields():
            rng = random.Random(field.modulus())
            recurrence = [1] + [rng.randrange(field.size()) for _ in range(5)]
            items = [rng.randrange(field.size()) for _ in range(5)]
            while len(items) < 40:
                item = 0
                for i in range(1, 6):
                    item ^= field.times(recurrence[i], items[len(items) - i])
                items.append(item)
            self.assertIs(makes(field, recurrence, items), True)
            for k in range(5, 40):
                wrong = items[:k] + [items[k] ^ 1]
                self.assertIs(makes(field, recurrence, wrong), False)

    def test_long_recurrences_make_all(self):
        field = Field(2, 7)
        for items in ([], [0], [3], [3, 1, 2]):
            for length in range(len(items), 6):
                self.assertIs(makes(field, [1] + [2] * length, items), True)
        self.assertIs(makes(field, [1], [0, 0, 0]), True)
        self.assertIs(makes(field, [1], [0, 0, 1]), False)
        self.assertIs(makes(field, [1, 0, 0], [1, 2, 0, 0]), True)
        self.assertIs(makes(field, [1, 0, 0], [1, 2, 0, 1]), False)

    def assert_shortest(self, field, items, span):
        found = fresh(self, shortest, field, items)
        self.assertIs(type(found), tuple)
        recurrence, paper = found
        self.assertEqual(len(recurrence) - 1, span)
        self.assertTrue(is_form(field, recurrence))
        self.assertTrue(slow_makes(field, recurrence, items))
        self.assertTrue(paper is None or (type(paper) is tuple and len(paper) == 2))
        self.assertIs(fresh(self, check_shortest, field, items, recurrence, paper), True)
        self.assertTrue(passes(field, items, recurrence, paper))

    def test_all_short_lists_over_four_elements(self):
        field = Field(2, 7)
        for size in range(6):
            for items in itertools.product(range(4), repeat=size):
                self.assert_shortest(field, list(items), slow_span(field, list(items)))

    def test_other_lists_over_four_elements(self):
        field = Field(2, 7)
        rng = random.Random(1)
        for _ in range(20):
            items = [rng.randrange(4) for _ in range(rng.randrange(6, 8))]
            self.assert_shortest(field, items, slow_span(field, items))
        for items in ([0, 0, 0, 0, 0, 0, 1], [1, 0, 0, 0, 0, 0, 1], [0, 0, 1, 0, 0, 0, 0]):
            self.assert_shortest(field, items, slow_span(field, items))

    def test_lists_of_zeros(self):
        for field in small_fields():
            for size in (0, 1, 2, 10, 300):
                self.assertEqual(fresh(self, shortest, field, [0] * size), ([1], None))
            for size in (1, 5, 300):
                self.assert_shortest(field, [0] * (size - 1) + [2], size)
                self.assert_shortest(field, [2] + [0] * (size - 1), 1)

    def test_greater_lists(self):
        for field in all_fields():
            rng = random.Random(field.modulus() + 1)
            for size in (1, 7, 20, 61):
                for zeros in (0, size // 3):
                    items = [0] * zeros + [rng.randrange(field.size()) for _ in range(size - zeros)]
                    recurrence, paper = shortest(field, items)
                    self.assert_shortest(field, items, len(recurrence) - 1)
        items = [k * k * 7 % 256 for k in range(300)]
        field = Field(8, 283)
        self.assertTrue(passes(field, items, *shortest(field, items)))

    def test_known_spans(self):
        for field in all_fields():
            a = field.root()
            powers = [field.power(a, k) for k in range(12)]
            self.assert_shortest(field, powers, 1)
            self.assert_shortest(field, [1 ^ e for e in powers], 2)
            self.assert_shortest(field, [5 % field.size()] * 12, 1)
            self.assert_shortest(field, [0, 1] * 6, 2)


class TestPapers(unittest.TestCase):
    def assert_checked(self, field, items, recurrence, paper):
        found = fresh(self, check_shortest, field, items, recurrence, paper)
        self.assertIs(found, passes(field, items, recurrence, paper), (items, recurrence, paper))
        return found

    def test_recurrences_of_another_form(self):
        for field in small_fields():
            q = field.size()
            items = [1, 2, 3, 1, 1, 3]
            recurrence, paper = shortest(field, items)
            others = [[], [0], [0] + recurrence[1:], [2] + recurrence[1:], [-1] + recurrence[1:], [0] + recurrence,
                      recurrence + [0], recurrence[:-1]]
            for k in range(len(recurrence)):
                for number in (-1, q, q + 1, 2 ** 40, recurrence[k] - q, recurrence[k] + q):
                    others.append(recurrence[:k] + [number] + recurrence[k + 1:])
            for other in others:
                for some in (paper, None):
                    self.assertFalse(self.assert_checked(field, items, other, some))

    def test_numbers_that_are_no_element_in_long_recurrences(self):
        # A recurrence as long as the list makes it, whatever stands in it.
        field = Field(2, 7)
        items = [0, 0, 0, 1]
        for number in (-1, 4, 2 ** 40, -4):
            self.assertFalse(self.assert_checked(field, items, [1, 0, 0, 0, number], (3, [1])))
        self.assertTrue(self.assert_checked(field, items, [1, 0, 0, 0, 3], (3, [1])))
        self.assertTrue(self.assert_checked(field, items, [1, 2, 3, 1, 0], (3, [1])))

    def test_papers_of_another_form(self):
        for field in small_fields():
            q = field.size()
            items = [1, 2, 3, 1, 1, 3]
            recurrence, (k, earlier) = shortest(field, items)
            for index in (-1, -6, 6, 7, 2 ** 40, -(2 ** 40), k - 6):
                self.assertFalse(self.assert_checked(field, items, recurrence, (index, earlier)))
            for index in range(6):
                self.assert_checked(field, items, recurrence, (index, earlier))
            for other in ([], [0], [2] + earlier[1:], [0] + earlier, [1] * 7, earlier + [q], earlier + [-1]):
                self.assertFalse(self.assert_checked(field, items, recurrence, (k, other)))

    def test_negative_indexes_do_not_count_from_the_end(self):
        field = Field(2, 7)
        for items in ([0, 0, 1], [1, 0, 0], [0, 1, 0], [2, 2, 2]):
            span = slow_span(field, items)
            for rest in itertools.product(range(4), repeat=span):
                for k in range(-4, 5):
                    for earlier in ([1], [1, 0], [1, 1], [1, 0, 0]):
                        self.assert_checked(field, items, [1] + list(rest), (k, earlier))

    def test_elements_that_are_none_in_the_paper(self):
        field = Field(2, 7)
        items = [0, 1, 0, 0, 1, 0]
        recurrence, (k, earlier) = shortest(field, items)
        for i in range(len(earlier)):
            for number in (-1, 4, 5, 2 ** 40, earlier[i] - 4, earlier[i] + 4):
                wrong = earlier[:i] + [number] + earlier[i + 1:]
                self.assertFalse(self.assert_checked(field, items, recurrence, (k, wrong)))

    def test_no_paper(self):
        field = Field(2, 7)
        self.assertTrue(self.assert_checked(field, [], [1], None))
        self.assertTrue(self.assert_checked(field, [0, 0], [1], None))
        self.assertFalse(self.assert_checked(field, [0, 1], [1], None))
        for length in range(1, 5):
            self.assertFalse(self.assert_checked(field, [0, 0], [1] + [0] * length, None))
            self.assertFalse(self.assert_checked(field, [], [1] + [0] * length, None))
            self.assertFalse(self.assert_checked(field, [2] * length, [1] + [1] * length, None))

    def test_all_small_papers(self):
        field = Field(2, 7)
        forms = [[1] + list(rest) for size in range(3) for rest in itertools.product(range(4), repeat=size)]
        for items in ([], [0], [1], [0, 1], [2, 3], [1, 2, 3], [0, 0, 2], [1, 1, 0]):
            span = slow_span(field, items)
            for recurrence in forms + [[1, 0, 0, 0]]:
                for earlier in forms:
                    for k in range(len(items)):
                        found = check_shortest(field, items, recurrence, (k, earlier))
                        self.assertIs(found, passes(field, items, recurrence, (k, earlier)))
                        self.assertFalse(found and len(recurrence) - 1 != span)
