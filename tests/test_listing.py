import random
import unittest

from farhaul.fields.field import Field
from farhaul.lists.listing import check_list, list_near, nearest
from farhaul.lists.reaches import enough, limit, reach
from farhaul.rootcodes.code import RootCode
from farhaul.rootcodes.mending import corrected, mend
from reference import fresh, raises
from test_covers import first_solution
from test_votes import all_words, passes, vertices_of, weight_of


def small_codes():
    two, three, four = Field(2, 7), Field(3, 11), Field(4, 19)
    return [RootCode(two, 3, 0, 2), RootCode(two, 3, 1, 1), RootCode(three, 7, 1, 5), RootCode(three, 7, 4, 6),
            RootCode(three, 6, 6, 4), RootCode(three, 5, 0, 3), RootCode(four, 15, 2, 13), RootCode(four, 9, 14, 8),
            RootCode(three, 7, 0, 4)]


def slow_distance(received, wiped, word):
    return sum(1 for k, symbol in enumerate(word) if k not in wiped and symbol != received[k])


def slow_entry(received, wiped, word):
    """The word and the correction that leads to it, by the words of point 305."""
    base = [0 if k in wiped else symbol for k, symbol in enumerate(received)]
    return word, [(k, e ^ f) for k, (e, f) in enumerate(zip(base, word)) if e != f]


def some_received(code, rng):
    """What is received: some places are wiped, and the others are those of a word, of two words, or anything."""
    words = all_words(code)
    one, two = rng.choice(words), rng.choice(words)
    kind = rng.choice(("one", "two", "any"))
    received = []
    for k in range(code.n):
        choices = {"one": (one[k],), "two": (one[k], two[k]), "any": (one[k], rng.randrange(code.field.size()))}
        received.append(rng.choice(choices[kind]))
    many = min(code.n, rng.choice((0, 0, 1, 2, code.checks, rng.randrange(code.n + 1))))
    wiped = sorted(rng.sample(range(code.n), many))
    for k in wiped:
        received[k] = rng.randrange(code.field.size())
    return received, wiped


def fits(code, wiped, many):
    return (code.n - len(wiped)) * many * (many + 1) // 2 <= 150


def list_passes(code, received, wiped, distance, many, entries, cover):
    """The check of point 1012, by its words."""
    votes = [(k, symbol, many) for k, symbol in enumerate(received) if k not in wiped]
    words = [word for word, _ in entries]
    if not passes(code, votes, many * (code.n - len(wiped) - distance), words, cover):
        return False
    return entries == [slow_entry(received, wiped, word) for word in words]


class TestLists(unittest.TestCase):
    def test_against_all_words(self):
        rng = random.Random(1046)
        several = 0
        for code in small_codes():
            words = all_words(code)
            for _ in range(8):
                received, wiped = some_received(code, rng)
                for many in (1, 2, 4):
                    most = reach(code, len(wiped), many)
                    if not fits(code, wiped, many) or most is None:
                        continue
                    for distance in range(most + 1):
                        found = fresh(self, list_near, code, received, wiped, distance, many)
                        near = [word for word in words if slow_distance(received, wiped, word) <= distance]
                        self.assertEqual(found[0], [slow_entry(received, wiped, word) for word in near])
                        self.assertIs(type(found), tuple)
                        self.assertTrue(all(type(entry) is tuple for entry in found[0]))
                        several += len(near) > 1
        self.assertLess(0, several)

    def test_covers_are_least(self):
        rng = random.Random(1047)
        for code in small_codes():
            received, wiped = some_received(code, rng)
            for many in (1, 2):
                if reach(code, len(wiped), many) is not None:
                    votes = [(k, symbol, many) for k, symbol in enumerate(received) if k not in wiped]
                    least = first_solution(code.field, weight_of(code), vertices_of(code, votes))
                    for distance in range(reach(code, len(wiped), many) + 1):
                        self.assertEqual(list_near(code, received, wiped, distance, many)[1], least)

    def test_corrections_lead_to_the_words(self):
        rng = random.Random(1048)
        for code in small_codes():
            for _ in range(4):
                received, wiped = some_received(code, rng)
                most = reach(code, len(wiped), 2)
                if most is not None and fits(code, wiped, 2):
                    for word, pairs in list_near(code, received, wiped, most, 2)[0]:
                        self.assertEqual(corrected(code, received, wiped, pairs), word)
                        self.assertTrue(code.is_word(word))

    def test_two_words_at_one_distance(self):
        # Both words differ in two places from what is received, which is as far as the checks reach.
        code = RootCode(Field(3, 11), 7, 1, 3)
        word = code.word_on([0, 2, 3, 6])
        received = [symbol if k in (0, 2) else 0 for k, symbol in enumerate(word)]
        self.assertIsNone(mend(code, received, []))
        code = RootCode(Field(4, 19), 15, 1, 12)
        word = code.word_on(list(range(13)))
        received = [symbol if k < 6 else 0 for k, symbol in enumerate(word)]
        many = enough(code, 0, 7)
        entries, _ = list_near(code, received, [], 7, many)
        self.assertIn(([0] * 15, [(k, received[k]) for k in range(6)]), entries)
        self.assertIn((word, [(k, word[k]) for k in range(6, 13)]), entries)

    def test_within_the_bound_of_mending(self):
        rng = random.Random(1049)
        for code in small_codes():
            for _ in range(10):
                received, wiped = some_received(code, rng)
                mended = mend(code, received, wiped)
                if mended is None or not fits(code, wiped, 1):
                    continue
                distance = slow_distance(received, wiped, mended[0])
                for many in (1, 2, 3):
                    most = reach(code, len(wiped), many)
                    if fits(code, wiped, many) and most is not None and distance <= most:
                        self.assertEqual(list_near(code, received, wiped, distance, many)[0], [mended])
                        self.assertEqual(nearest(code, received, wiped, many), (distance, [mended]))

    def test_nearest(self):
        rng = random.Random(1050)
        none = several = 0
        for code in small_codes():
            words = all_words(code)
            for _ in range(10):
                received, wiped = some_received(code, rng)
                for many in (1, 2, 4):
                    if not fits(code, wiped, many):
                        continue
                    found = fresh(self, nearest, code, received, wiped, many)
                    best = min(slow_distance(received, wiped, word) for word in words)
                    most = reach(code, len(wiped), many)
                    if most is None or best > most:
                        self.assertIsNone(found)
                        none += 1
                    else:
                        near = [word for word in words if slow_distance(received, wiped, word) == best]
                        self.assertEqual(found, (best, [slow_entry(received, wiped, word) for word in near]))
                        several += len(near) > 1
        self.assertLess(0, none)
        self.assertLess(0, several)

    def test_all_wiped(self):
        for code in small_codes():
            wiped = list(range(code.n))
            for many in (1, 16):
                self.assertIsNone(nearest(code, [1] * code.n, wiped, many))
                for distance in (0, 1, 5):
                    raises(self, "TooFar", -1, list_near, code, [1] * code.n, wiped, distance, many)

    def test_wiped_symbols_play_no_part(self):
        rng = random.Random(1051)
        for code in small_codes():
            received, wiped = some_received(code, rng)
            other = [rng.randrange(code.field.size()) if k in wiped else symbol for k, symbol in enumerate(received)]
            self.assertEqual(nearest(code, received, wiped, 2), nearest(code, other, wiped, 2))
            if reach(code, len(wiped), 2) is not None:
                for distance in range(reach(code, len(wiped), 2) + 1):
                    found = list_near(code, received, wiped, distance, 2)
                    self.assertEqual(found, list_near(code, other, wiped, distance, 2))
                    self.assertTrue(check_list(code, other, wiped, distance, 2, *found))

    def test_long_codes(self):
        rng = random.Random(1052)
        for field, n, first, checks, wiped, many in (
            (Field(8, 285), 255, 1, 200, 3, 1), (Field(6, 67), 63, 5, 55, 5, 2), (Field(5, 37), 31, 0, 27, 0, 5),
            (Field(4, 19), 15, 1, 12, 2, 8),
        ):
            code = RootCode(field, n, first, checks)
            word = code.codeword([rng.randrange(field.size()) for _ in range(n - checks)])
            most = reach(code, wiped, many)
            self.assertLessEqual((checks - wiped) // 2, most)
            places = rng.sample(range(n), most + wiped)
            received = [symbol ^ rng.randrange(1, field.size()) if k in places else symbol for k, symbol in enumerate(word)]
            entries, cover = list_near(code, received, sorted(places[most:]), most, many)
            self.assertIn(slow_entry(received, places[most:], word), entries)
            self.assertTrue(check_list(code, received, sorted(places[most:]), most, many, entries, cover))
            self.assertLessEqual(len(entries), len(cover))


class TestErrors(unittest.TestCase):
    def assert_all(self, name, at, code, received, wiped, many):
        for distance in (0, 1, 2 ** 32 - 1):
            raises(self, name, at, list_near, code, received, wiped, distance, many)
            raises(self, name, at, check_list, code, received, wiped, distance, many, [], [[1]])
        raises(self, name, at, nearest, code, received, wiped, many)

    def test_order(self):
        far = 2 ** 40
        for code in small_codes():
            n = code.n
            for many in (0, 1, 17):
                for wiped in ([], [0], [n], [-1], [1, 1]):
                    for size in (0, n - 1, n + 1):
                        self.assert_all("WrongSize", 0, code, [0] * size, wiped, many)
                for wiped, k in (([n], 0), ([-1], 0), ([0, 0], 1), ([1, 0], 1), ([0, 1, far], 2), ([0, -far], 1)):
                    self.assert_all("WrongPlace", k, code, [0] * n, wiped, many)
            for many in (0, -1, 17, 18, far, -far):
                for wiped in ([], [0], list(range(n))):
                    self.assert_all("OutOfRange", many, code, [0] * n, wiped, many)

    def test_too_far(self):
        rng = random.Random(1053)
        for code in small_codes():
            for _ in range(6):
                received, wiped = some_received(code, rng)
                most = reach(code, len(wiped), 1)
                at = -1 if most is None else most
                for distance in (at + 1, at + 2, 2 ** 32 - 1):
                    raises(self, "TooFar", at, list_near, code, received, wiped, distance, 1)

    def test_multiplicities_at_the_ends(self):
        code = RootCode(Field(2, 7), 3, 0, 2)
        self.assertEqual(list_near(code, [0, 0, 0], [], 0, 16)[0], [([0, 0, 0], [])])
        self.assertEqual(list_near(code, [0, 0, 0], [], 0, 1)[0], [([0, 0, 0], [])])


class TestCheck(unittest.TestCase):
    def assert_checked(self, code, received, wiped, distance, many, entries, cover):
        found = fresh(self, check_list, code, received, wiped, distance, many, entries, cover)
        self.assertIs(found, list_passes(code, received, wiped, distance, many, entries, cover))
        return found

    def examples(self, seed, many_each=4):
        rng = random.Random(seed)
        # Two words differ in six places, and what is received is in the middle between them.
        code = RootCode(Field(3, 11), 7, 1, 5)
        middle = [symbol if k < 3 else 0 for k, symbol in enumerate(code.word_on([0, 1, 2, 3, 4, 5]))]
        found = [(code, middle, [], 3, 3) + list_near(code, middle, [], 3, 3)]
        for code in small_codes():
            if len(all_words(code)) > 64:
                continue
            for _ in range(many_each):
                received, wiped = some_received(code, rng)
                many = rng.choice((1, 2))
                most = reach(code, len(wiped), many)
                if most is not None:
                    found.append((code, received, wiped, most, many) + list_near(code, received, wiped, most, many))
        self.assertTrue(any(len(example[5]) > 1 for example in found))
        return found

    def test_what_is_told(self):
        for code, received, wiped, most, many, _, _ in self.examples(1054):
            for distance in range(most + 1):
                entries, cover = list_near(code, received, wiped, distance, many)
                self.assertTrue(self.assert_checked(code, received, wiped, distance, many, entries, cover))

    def test_other_entries(self):
        rng = random.Random(1055)
        for code, received, wiped, distance, many, entries, cover in self.examples(1056, many_each=5):
            words = [word for word, _ in entries]
            more = slow_entry(received, wiped, rng.choice([word for word in all_words(code) if word not in words]))
            others = [entries + [more], sorted(entries + [more]), [more], entries + [([], [])]]
            for k, (word, pairs) in enumerate(entries):
                for entry in [(word, pairs + [(0, 1)]), (word, pairs[1:] if pairs else [(0, 1)]), (word, pairs + [(-1, 0)]),
                              (more[0], pairs), (word, more[1]), (word + [0], pairs), (word[1:], pairs),
                              (word[:-1] + [word[-1] ^ 1], pairs), (word, pairs + [(code.n, 1)]),
                              (word, [(0, 0)] + pairs), ([-1] + word[1:], pairs)]:
                    others.append(entries[:k] + [entry] + entries[k + 1:])
                if len(pairs) > 1:
                    others.append(entries[:k] + [(word, pairs[::-1])] + entries[k + 1:])
                others += [entries[:k] + entries[k + 1:], entries[:k] + [entries[k]] + entries[k:], entries[:k] + [more]]
            if len(entries) > 1:
                others += [entries[::-1], [(entries[0][0], entries[1][1])] + entries[1:]]
            for other in others:
                self.assertFalse(self.assert_checked(code, received, wiped, distance, many, other, cover))

    def test_other_covers(self):
        rng = random.Random(1057)
        for code, received, wiped, distance, many, entries, cover in self.examples(1058, many_each=1):
            size = code.field.size()
            others = [[], [[]], [[1]], cover + [[]], cover[:-1], [cover[0] + [0]] + cover[1:], [[size]] + cover[1:]]
            for j, row in enumerate(cover):
                for i in range(len(row)):
                    other = rng.choice([e for e in range(-1, size + 1) if e != row[i]])
                    others.append(cover[:j] + [row[:i] + [other] + row[i + 1:]] + cover[j + 1:])
            for other in others:
                self.assert_checked(code, received, wiped, distance, many, entries, other)
            scaled = [code.field.scaled(row, size - 1) for row in cover]
            self.assertTrue(self.assert_checked(code, received, wiped, distance, many, entries, scaled))

    def test_other_distances_and_multiplicities(self):
        passed = 0
        for code, received, wiped, most, many, entries, cover in self.examples(1059):
            for distance in list(range(code.n + 2)) + [2 ** 32 - 1]:
                for other in (many, many + 1, 1, 16):
                    near = [word for word in all_words(code) if slow_distance(received, wiped, word) <= distance]
                    for some in (entries, [slow_entry(received, wiped, word) for word in near]):
                        found = self.assert_checked(code, received, wiped, distance, other, some, cover)
                        if found:
                            self.assertEqual([word for word, _ in some], near)
                            passed += distance > most
        # With a cover of a low degree the check passes for distances greater than the reach, too.
        self.assertLess(0, passed)

    def test_other_received_lists(self):
        for code, received, wiped, distance, many, entries, cover in self.examples(1060):
            for k in range(code.n):
                other = received[:k] + [received[k] ^ 1] + received[k + 1:]
                found = self.assert_checked(code, other, wiped, distance, many, entries, cover)
                if k in wiped:
                    self.assertTrue(found)

    def test_limit(self):
        # Up to the limit there is a multiplicity with which all words are listed.
        code = RootCode(Field(3, 11), 7, 1, 5)
        rng = random.Random(1061)
        for wiped in ([], [3], [0, 5]):
            most = limit(code, len(wiped))
            for _ in range(4):
                received = [rng.randrange(8) for _ in range(7)]
                many = enough(code, len(wiped), most)
                near = [word for word in all_words(code) if slow_distance(received, wiped, word) <= most]
                entries, cover = list_near(code, received, wiped, most, many)
                self.assertEqual(entries, [slow_entry(received, wiped, word) for word in near])
                self.assertTrue(check_list(code, received, wiped, most, many, entries, cover))
