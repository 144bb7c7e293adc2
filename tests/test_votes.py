import itertools
import random
import unittest

from farhaul.fields.field import Field
from farhaul.lists.forms import form_of, multipliers
from farhaul.lists.votes import check_elected, elected, quorum, score
from farhaul.rootcodes.code import RootCode
from reference import fresh, raises
from test_bivariate import slow_along, slow_multiplicity, terms_of
from test_covers import first_solution
from test_reaches import bound_by_counting


def small_codes():
    two, three, four = Field(2, 7), Field(3, 11), Field(4, 19)
    return [RootCode(two, 3, 0, 2), RootCode(two, 3, 1, 1), RootCode(two, 2, 2, 1), RootCode(three, 7, 1, 5),
            RootCode(three, 7, 4, 6), RootCode(three, 5, 0, 3), RootCode(three, 6, 6, 4), RootCode(four, 15, 2, 13),
            RootCode(four, 9, 14, 8), RootCode(three, 4, 3, 1)]


def all_words(code):
    messages = itertools.product(range(code.field.size()), repeat=code.n - code.checks)
    return sorted(code.codeword(list(message)) for message in messages)


def some_votes(code, rng, most=60):
    """Votes of a cost that is not too great, for several symbols at some places."""
    word = rng.choice(all_words(code))
    pairs = {(place, symbol) for place, symbol in enumerate(word) if rng.randrange(5)}
    for _ in range(rng.randrange(8)):
        pairs.add((rng.randrange(code.n), rng.randrange(code.field.size())))
    votes, cost = [], 0
    great = rng.choice((1, 2, 3, 5))
    for place, symbol in sorted(pairs):
        many = rng.randrange(1, great + 1)
        if cost + many * (many + 1) // 2 <= most:
            votes.append((place, symbol, many))
            cost += many * (many + 1) // 2
    return votes


def slow_score(votes, word):
    return sum(many for place, symbol, many in votes if word[place] == symbol)


def weight_of(code):
    return max(1, code.n - code.checks - 1)


def vertices_of(code, votes):
    field, factors = code.field, multipliers(code)
    return [(field.power(field.root(), place), field.times(symbol, field.inverse(factors[place])), many)
            for place, symbol, many in votes]


def slow_quorum(code, votes):
    return bound_by_counting(weight_of(code), sum(many * (many + 1) // 2 for _, _, many in votes))


def passes(code, votes, least, words, cover):
    """The check of point 1009, by its words."""
    field = code.field
    for row in cover:
        if any(c < 0 or c >= field.size() for c in row) or (row and row[-1] == 0):
            return False
    if not cover or not cover[-1]:
        return False
    for e, f, s in vertices_of(code, votes):
        if slow_multiplicity(field, cover, e, f) < s:
            return False
    if max(i + weight_of(code) * j for i, j, _ in terms_of(cover)) >= least:
        return False
    roots = [word for word in all_words(code) if slow_along(field, cover, form_of(code, word)) == []]
    return words == [word for word in roots if slow_score(votes, word) >= least]


class TestScores(unittest.TestCase):
    def test_score_and_quorum(self):
        rng = random.Random(1035)
        for code in small_codes():
            for _ in range(6):
                votes = some_votes(code, rng)
                self.assertEqual(quorum(code, votes), slow_quorum(code, votes))
                for _ in range(4):
                    word = [rng.randrange(code.field.size()) for _ in range(code.n)]
                    self.assertEqual(fresh(self, score, code, votes, word), slow_score(votes, word))
                self.assertEqual(fresh(self, quorum, code, votes), slow_quorum(code, votes))

    def test_known_scores(self):
        code = RootCode(Field(3, 11), 7, 1, 5)
        votes = [(0, 3, 2), (0, 4, 5), (2, 0, 1), (6, 7, 16)]
        self.assertEqual(score(code, votes, [3, 0, 0, 0, 0, 0, 7]), 19)
        self.assertEqual(score(code, votes, [4, 0, 1, 0, 0, 0, 0]), 5)
        self.assertEqual(score(code, votes, [1] * 7), 0)
        # The cost is 3 + 15 + 1 + 136, and up to the degree 16 there are 153 terms.
        self.assertEqual(quorum(code, votes), 17)

    def test_no_votes(self):
        for code in small_codes():
            self.assertEqual(quorum(code, []), 0)
            self.assertEqual(score(code, [], [0] * code.n), 0)
            self.assertEqual(fresh(self, elected, code, []), ([], [[1]]))


class TestElected(unittest.TestCase):
    def test_against_all_words(self):
        rng = random.Random(1036)
        several = 0
        for code in small_codes():
            words = all_words(code)
            for _ in range(12):
                votes = some_votes(code, rng)
                found = fresh(self, elected, code, votes)
                self.assertIs(type(found), tuple)
                most = slow_quorum(code, votes)
                pairs = [(word, slow_score(votes, word)) for word in words]
                self.assertEqual(found[0], [(word, many) for word, many in pairs if many > most])
                self.assertTrue(all(type(pair) is tuple for pair in found[0]))
                several += len(found[0]) > 1
        self.assertLess(0, several)

    def test_cover(self):
        rng = random.Random(1037)
        for code in small_codes():
            for _ in range(4):
                votes = some_votes(code, rng, most=40)
                cover = elected(code, votes)[1]
                self.assertEqual(cover, first_solution(code.field, weight_of(code), vertices_of(code, votes)))

    def test_several_symbols_at_a_place(self):
        code = RootCode(Field(3, 11), 7, 1, 5)
        one, two = all_words(code)[9], all_words(code)[50]
        votes = sorted({(place, word[place]) for word in (one, two) for place in range(7)})
        pairs, cover = elected(code, [(place, symbol, 2) for place, symbol in votes])
        self.assertEqual(pairs, [(one, 14), (two, 14)])

    def test_long_codes(self):
        rng = random.Random(1038)
        for field, n, first, checks in ((Field(8, 285), 255, 1, 200), (Field(6, 67), 40, 5, 30), (Field(5, 37), 31, 0, 30)):
            code = RootCode(field, n, first, checks)
            word = code.codeword([rng.randrange(field.size()) for _ in range(n - checks)])
            votes = [(place, symbol ^ (place % 3 == 0), 1) for place, symbol in enumerate(word)]
            pairs, cover = elected(code, votes)
            self.assertEqual(pairs, [(word, slow_score(votes, word))])
            self.assertTrue(check_elected(code, votes, quorum(code, votes) + 1, [word], cover))


class TestCheck(unittest.TestCase):
    def assert_checked(self, code, votes, least, words, cover):
        found = fresh(self, check_elected, code, votes, least, words, cover)
        self.assertIs(found, passes(code, votes, least, words, cover))
        return found

    def examples(self, seed, many=3):
        """Codes, votes, the elected words and their cover; some words are elected."""
        rng = random.Random(seed)
        found = []
        for code in small_codes():
            if len(all_words(code)) > 64:
                continue
            for _ in range(many):
                votes = some_votes(code, rng, most=40)
                pairs, cover = elected(code, votes)
                found.append((code, votes, [word for word, _ in pairs], cover))
        self.assertTrue(any(words for _, _, words, _ in found))
        return found

    def test_what_is_told(self):
        for code, votes, words, cover in self.examples(1039):
            least = quorum(code, votes) + 1
            self.assertTrue(self.assert_checked(code, votes, least, words, cover))

    def test_other_least_scores(self):
        for code, votes, words, cover in self.examples(1040):
            bound = quorum(code, votes)
            for least in list(range(-1, bound + 4)) + [2 ** 40, -(2 ** 40)]:
                self.assert_checked(code, votes, least, words, cover)
                others = [word for word in all_words(code) if slow_score(votes, word) >= least]
                self.assert_checked(code, votes, least, others, cover)
            self.assertFalse(check_elected(code, votes, -(2 ** 40), words, cover))
            self.assertTrue(check_elected(code, votes, 2 ** 40, [], cover))

    def test_a_lower_least_score_may_pass(self):
        # With a cover of a low degree the check passes for scores up to the quorum, too.
        code = RootCode(Field(3, 11), 7, 1, 5)
        word = all_words(code)[30]
        votes = [(place, symbol, 1) for place, symbol in enumerate(word)]
        cover = elected(code, votes)[1]
        self.assertLess(2, quorum(code, votes))
        self.assertTrue(self.assert_checked(code, votes, 2, [word], cover))

    def test_other_words(self):
        rng = random.Random(1041)
        for code, votes, words, cover in self.examples(1042, many=4):
            least = quorum(code, votes) + 1
            more = rng.choice([word for word in all_words(code) if word not in words])
            others = [words + [more], [more] + words, sorted(words + [more]), words + [[]], [[0] * (code.n + 1)] + words]
            if words:
                others += [words[1:], words[:-1], words + words[-1:], words[:1] + words, [], [more] + words[1:],
                           [words[0][:-1]] + words[1:], [words[0] + [0]] + words[1:], [[-1] + words[0][1:]] + words[1:],
                           [[words[0][0] ^ 1] + words[0][1:]] + words[1:]]
            if len(words) > 1:
                others += [words[::-1], [words[1], words[0]] + words[2:]]
            for other in others:
                self.assertFalse(self.assert_checked(code, votes, least, other, cover))

    def test_other_covers(self):
        rng = random.Random(1043)
        for code, votes, words, cover in self.examples(1044, many=2):
            least = quorum(code, votes) + 1
            size = code.field.size()
            others = [[], [[]], [[1]], cover + [[]], cover[:-1], cover + [[1]], [cover[0] + [0]] + cover[1:], [[]] + cover,
                      [[size]] + cover[1:], [[-1]] + cover[1:], [row + [-1] for row in cover], cover[1:] + [cover[0]]]
            others.append([code.field.scaled(row, size - 1) for row in cover])
            others.append([[0] + row if row else [] for row in cover])
            for j, row in enumerate(cover):
                for i in range(len(row)):
                    other = rng.choice([e for e in list(range(-1, size + 1)) if e != row[i]])
                    others.append(cover[:j] + [row[:i] + [other] + row[i + 1:]] + cover[j + 1:])
            for other in others:
                self.assert_checked(code, votes, least, words, other)
            for other in others[:2]:
                self.assertFalse(check_elected(code, votes, least, words, other))
            self.assertTrue(check_elected(code, votes, least, words, others[12]))

    def test_covers_of_too_high_a_degree(self):
        for code, votes, words, cover in self.examples(1045):
            degree = max(i + weight_of(code) * j for i, j, _ in terms_of(cover))
            for many in range(1, quorum(code, votes) + 3):
                longer = [[0] * many + row if row else [] for row in cover]
                found = self.assert_checked(code, votes, quorum(code, votes) + 1, words, longer)
                self.assertIs(found, degree + many <= quorum(code, votes))


class TestBadVotes(unittest.TestCase):
    def assert_bad(self, code, votes, k):
        raises(self, "BadVote", k, score, code, votes, [0] * code.n)
        raises(self, "BadVote", k, quorum, code, votes)
        raises(self, "BadVote", k, elected, code, votes)
        for cover in ([], [[1]], [[-1]]):
            raises(self, "BadVote", k, check_elected, code, votes, 1, [], cover)

    def test_each_kind(self):
        far = 2 ** 40
        for code in small_codes():
            n, q = code.n, code.field.size()
            for bad in [(-1, 0, 1), (n, 0, 1), (far, 0, 1), (-far, 0, 1), (n - 1, -1, 1), (n - 1, q, 1), (n - 1, far, 1),
                        (n - 1, -far, 1), (n - 1, 1, 0), (n - 1, 1, -1), (n - 1, 1, 17), (n - 1, 1, far), (n - 1, 1, -far)]:
                self.assert_bad(code, [bad], 0)
                self.assert_bad(code, [(0, 0, 1), bad], 1)
                self.assert_bad(code, [(0, 0, 16), (0, 1, 1), bad, bad], 2)

    def test_order(self):
        for code in small_codes():
            for votes, k in (
                ([(0, 1, 1), (0, 1, 1)], 1), ([(0, 1, 1), (0, 0, 1)], 1), ([(1, 0, 1), (0, 1, 1)], 1),
                ([(0, 0, 1), (1, 3, 1), (1, 2, 4)], 2), ([(0, 0, 1), (1, 3, 1), (1, 3, 4)], 2),
                ([(0, 3, 1), (1, 0, 1), (0, 3, 1), (0, 3, 1)], 2),
            ):
                self.assert_bad(code, votes, k)

    def test_first_one_of_several(self):
        for code in small_codes():
            self.assert_bad(code, [(0, 0, 1), (0, 0, 0), (code.n, 0, 1)], 1)
            self.assert_bad(code, [(0, 0, 17), (0, 0, 1), (-1, 0, 1)], 0)
            self.assert_bad(code, [(0, 0, 1), (0, 1, 1), (code.n, -1, 0), (0, 0, 1)], 2)

    def test_good_ones(self):
        for code in small_codes():
            last = code.field.size() - 1
            self.assertEqual(score(code, [(0, 0, 16), (0, last, 1), (code.n - 1, 0, 1)], [0] * code.n), 17)
