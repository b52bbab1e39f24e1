"""Point [16]: vectors, matrices, what is made of rows, rank, inverses and products."""

import math
import random
import unittest

from sameontrees.errors import BadMatrix, BadVector, Singular, Unlike
from sameontrees.matrices import inverse, made_of, rank, times_matrix
from tests.common import NEVER, raised, spoilt
from tests.reference import Fraction, as_fractions, ratio


def matrix(*rows):
    """The matrix of integers and fractions."""
    return tuple(tuple(ratio(entry) for entry in row) for row in rows)


def vector(*entries):
    """The vector of integers and fractions."""
    return tuple(ratio(entry) for entry in entries)


def identity(many):
    """The matrix with 1 at equal places and 0 else."""
    return matrix(*[[int(one == other) for other in range(many)] for one in range(many)])


def product(one, other):
    """The sum of products of two vectors of ratios."""
    return sum((left * right for left, right in zip(as_fractions(one), as_fractions(other))),
               Fraction(0))


def combined(weights, rows, width):
    """The sum of weights times rows."""
    return tuple(ratio(sum((Fraction(*weight) * Fraction(*row[at])
                            for weight, row in zip(weights, rows)), Fraction(0)))
                 for at in range(width))


def some_matrix(chance, many, width, least=-2, most=2, below=2):
    """A matrix by chance."""
    return matrix(*[[Fraction(chance.randint(least, most), chance.randint(1, below))
                     for _ in range(width)] for _ in range(many)])


class Made(unittest.TestCase):

    def judge(self, rows, target):
        """Whether the target is made; fails if what is told does not show it."""
        word, shown = made_of(rows, target)
        self.assertTrue(all(bottom >= 1 and math.gcd(top, bottom) == 1 for top, bottom in shown))
        if word == "made":
            self.assertEqual(len(shown), len(rows))
            self.assertEqual(combined(shown, rows, len(target)), target)
            return True
        self.assertEqual(word, "apart")
        self.assertEqual(len(shown), len(target))
        self.assertEqual([product(row, shown) for row in rows], [0] * len(rows))
        self.assertEqual(product(target, shown), 1)
        return False

    def test_the_examples(self):
        self.assertEqual(made_of((((1, 1), (1, 1)), ((1, 1), (3, 1))), ((1, 1), (5, 1))),
                         ("made", ((-1, 1), (2, 1))))
        word, marks = made_of((((1, 1), (1, 1)),), ((1, 1), (3, 1)))
        self.assertEqual(word, "apart")
        self.assertFalse(self.judge((((1, 1), (1, 1)),), ((1, 1), (3, 1))))

    def test_the_matrix_without_rows(self):
        self.assertEqual(made_of((), ()), ("made", ()))
        self.assertEqual(made_of((), vector(0, 0, 0)), ("made", ()))
        self.assertFalse(self.judge((), vector(0, Fraction(-3, 2), 0)))
        self.assertFalse(self.judge((), vector(*range(48))))

    def test_rows_without_entries(self):
        self.assertTrue(self.judge(((),), ()))
        self.assertTrue(self.judge(((),) * 48, ()))

    def test_rows_of_zeros_and_equal_rows(self):
        zeros = matrix([0, 0], [0, 0])
        self.assertTrue(self.judge(zeros, vector(0, 0)))
        self.assertFalse(self.judge(zeros, vector(0, 1)))
        equal = matrix([0, 0], [2, -4], [2, -4], [-1, 2])
        self.assertTrue(self.judge(equal, vector(1, -2)))
        self.assertTrue(self.judge(equal, vector(0, 0)))
        self.assertFalse(self.judge(equal, vector(1, 2)))

    def test_random_targets(self):
        chance = random.Random(1)
        told = {True: 0, False: 0}
        for _ in range(400):
            many, width = chance.randint(0, 5), chance.randint(0, 5)
            rows = some_matrix(chance, many, width)
            target = vector(*[chance.randint(-1, 1) for _ in range(width)])
            told[self.judge(rows, target)] += 1
            weights = vector(*[Fraction(chance.randint(-3, 3), 4) for _ in range(many)])
            self.assertTrue(self.judge(rows, combined(weights, rows, width)))
        self.assertGreater(min(told.values()), 50)

    def test_great_ones(self):
        chance = random.Random(2)
        for many, width in ((48, 48), (48, 12), (12, 48), (47, 48)):
            rows = some_matrix(chance, many, width, -9, 9, 3)
            weights = vector(*[chance.randint(-3, 3) for _ in range(many)])
            self.assertTrue(self.judge(rows, combined(weights, rows, width)))
            target = some_matrix(chance, 1, width, -9, 9, 3)[0]
            self.assertEqual(self.judge(rows, target), many == 48)

    def test_ratios_of_forty_digits_and_more(self):
        chance = random.Random(3)
        for digits in (40, 60):
            rows = some_matrix(chance, 6, 7, -10 ** digits, 10 ** digits, 10 ** digits)
            weights = some_matrix(chance, 1, 6, -10 ** digits, 10 ** digits, 10 ** digits)[0]
            self.assertTrue(self.judge(rows, combined(weights, rows, 7)))
            self.assertFalse(self.judge(rows, vector(1, 2, 3, 4, 5, 6, 7)))


class Rank(unittest.TestCase):

    def test_small_ones(self):
        for rows, many in (((), 0), (((),), 0), (((), ()), 0), (matrix([0]), 0), (matrix([3]), 1),
                           (matrix([0, 0], [0, 0]), 0), (matrix([1, 2], [2, 4]), 1),
                           (matrix([1, 2], [1, 2], [1, 2]), 1), (matrix([1, 2], [2, 5]), 2),
                           (matrix([0, 1], [0, 2], [3, 0]), 2), (matrix([0, 0], [0, 1]), 1),
                           (matrix([1, 2, 3], [4, 5, 6], [7, 8, 9]), 2), (identity(48), 48)):
            self.assertEqual(rank(rows), many)

    def test_rows_made_of_few(self):
        chance = random.Random(4)
        for many, width, known in ((5, 6, 3), (6, 5, 4), (48, 48, 7), (48, 48, 47), (20, 48, 20)):
            rows = some_matrix(chance, known, width, -9, 9, 3)
            sums = [combined(some_matrix(chance, 1, known, -9, 9, 2)[0], rows, width)
                    for _ in range(many - known)]
            mixed = list(rows) + sums
            chance.shuffle(mixed)
            self.assertEqual(rank(tuple(mixed)), known)
            self.assertEqual(rank(tuple(zip(*mixed))), known)


class Inverse(unittest.TestCase):

    def there_and_back(self, rows):
        found = inverse(rows)
        self.assertEqual(times_matrix(rows, found), identity(len(rows)))
        self.assertEqual(times_matrix(found, rows), identity(len(rows)))
        self.assertEqual(inverse(found), rows)

    def test_small_ones(self):
        self.assertEqual(inverse(()), ())
        self.assertEqual(inverse(matrix([Fraction(-2, 3)])), matrix([Fraction(-3, 2)]))
        self.assertEqual(inverse(matrix([1, 3], [3, 5])),
                         matrix([Fraction(-5, 4), Fraction(3, 4)], [Fraction(3, 4), Fraction(-1, 4)]))
        self.assertEqual(inverse(matrix([0, 2], [1, 0])), matrix([0, 1], [Fraction(1, 2), 0]))
        self.there_and_back(matrix([0, 0, 1], [1, 0, 0], [0, -2, 0]))

    def test_random_ones(self):
        chance = random.Random(5)
        found = 0
        for _ in range(200):
            many = chance.randint(1, 5)
            rows = some_matrix(chance, many, many)
            if rank(rows) == many:
                self.there_and_back(rows)
                found += 1
            else:
                raised(Singular, inverse, rows)
        self.assertGreater(found, 50)

    def test_great_ones(self):
        chance = random.Random(6)
        self.there_and_back(identity(48))
        self.there_and_back(some_matrix(chance, 20, 20, -9, 9, 3))
        self.there_and_back(some_matrix(chance, 5, 5, -10 ** 40, 10 ** 40, 10 ** 40))
        rows = some_matrix(chance, 48, 48, -9, 9, 1)
        self.assertEqual(times_matrix(rows, inverse(rows)), identity(48))

    def test_great_ones_of_forty_digits(self):
        chance = random.Random(8)
        least, most = -10 ** 40, 10 ** 40
        blocks = [[Fraction(chance.randint(least, most), chance.randint(1, most))
                   if one // 6 == other // 6 else 0 for other in range(48)] for one in range(48)]
        steps = [[Fraction(chance.randint(least, most), chance.randint(1, most))
                  if one in (other, other + 1) else 0 for other in range(48)] for one in range(48)]
        shares = [[Fraction(1, one + other + 1) for other in range(48)] for one in range(48)]
        for rows in (matrix(*blocks), matrix(*steps), matrix(*shares)):
            found = inverse(rows)
            self.assertEqual(times_matrix(rows, found), identity(48))
            self.assertEqual(rank(rows), 48)
            self.assertEqual(made_of(rows[1:], rows[0])[0], "apart")

    def test_there_is_none(self):
        for rows in (matrix([0]), matrix([1, 2], [2, 4]), matrix([0, 0], [0, 1]),
                     matrix([1, 2, 3], [4, 5, 6], [7, 8, 9]), matrix(*[[1] * 48] * 48)):
            raised(Singular, inverse, rows)

    def test_as_many_rows_as_entries(self):
        for rows in (((),), matrix([1, 2]), matrix([1], [2]), matrix(*[[1, 2]] * 3),
                     matrix([0, 0, 0], [0, 0, 0])):
            raised(Unlike, inverse, rows)


class Times(unittest.TestCase):

    def test_small_ones(self):
        self.assertEqual(times_matrix(matrix([1, 2], [3, 4]), matrix([0, 1], [Fraction(1, 2), 5])),
                         matrix([1, 11], [2, 23]))
        self.assertEqual(times_matrix(matrix([1, 2, 3]), matrix([4], [5], [6])), matrix([32]))
        self.assertEqual(times_matrix(matrix([Fraction(1, 2)], [Fraction(1, 3)]),
                                      matrix([2, 3])),
                         matrix([1, Fraction(3, 2)], [Fraction(2, 3), 1]))

    def test_matrices_without_rows_or_entries(self):
        self.assertEqual(times_matrix((), ()), ())
        self.assertEqual(times_matrix((), matrix([1, 2], [3, 4])), ())
        self.assertEqual(times_matrix((), ((), ())), ())
        self.assertEqual(times_matrix(((), (), ()), ()), ((), (), ()))
        self.assertEqual(times_matrix(matrix([1, 2], [3, 4]), ((), ())), ((), ()))

    def test_random_ones(self):
        chance = random.Random(7)
        for _ in range(100):
            many, between, width = [chance.randint(1, 5) for _ in range(3)]
            one = some_matrix(chance, many, between, -9, 9, 5)
            other = some_matrix(chance, between, width, -9, 9, 5)
            columns = list(zip(*other))
            self.assertEqual(times_matrix(one, other), tuple(
                tuple(ratio(product(row, column)) for column in columns) for row in one))

    def test_unlike_ones(self):
        for one, other in ((matrix([1]), ()), (matrix([1, 2]), matrix([1])), (((),), matrix([1])),
                           (matrix([1]), matrix([1], [2])), (matrix([1], [2]), matrix([1], [2]))):
            raised(Unlike, times_matrix, one, other)


class Wrong(unittest.TestCase):

    def no_matrices(self):
        """Objects that are no matrices."""
        yield from (thing for thing in NEVER if repr(thing) not in ("()", "((),)"))
        yield from spoilt(matrix([1, 2], [3, 4]))
        yield from (matrix([1], [1, 2]), matrix([], [1]), ((1, 1),), ((1, 1), (1, 1)), (((2, 4),),),
                    (((1, 0),),), (((1, -1),),), (((0, 2),),), (((1, 1, 1),),))
        yield from ((((0, 1),),) * 49, (((0, 1),) * 49,), ((),) * 49)

    def test_what_is_no_matrix(self):
        for thing in self.no_matrices():
            raised(BadMatrix, made_of, thing, ())
            raised(BadMatrix, rank, thing)
            raised(BadMatrix, inverse, thing)
            raised(BadMatrix, times_matrix, thing, ())
            raised(BadMatrix, times_matrix, (), thing)
            raised(BadMatrix, times_matrix, matrix([1]), thing)

    def test_what_is_no_vector(self):
        for thing in NEVER:
            if repr(thing) != "()":
                raised(BadVector, made_of, (), thing)
                raised(BadVector, made_of, matrix([1, 2]), thing)
        for thing in (*spoilt(vector(1, 2)), ((2, 4), (1, 1)), ((1, 0), (1, 1)), ((0, 1),) * 49):
            raised(BadVector, made_of, matrix([1, 2]), thing)

    def test_forty_eight_are_let(self):
        for rows in (((),) * 48, (((0, 1),) * 48,) * 48, (((0, 1),) * 48,), (((0, 1),),) * 48):
            self.assertEqual(rank(rows), 0)
            self.assertTrue(made_of(rows, ((0, 1),) * len(rows[0]))[0] == "made")

    def test_targets_of_another_length(self):
        for rows, target in ((matrix([1, 2]), vector(1)), (matrix([1, 2]), ()),
                             (((),), vector(0)), (matrix([1], [2]), vector(1, 2))):
            raised(Unlike, made_of, rows, target)

    def test_the_order_of_errors(self):
        raised(BadMatrix, made_of, None, None)
        raised(BadVector, made_of, matrix([1]), None)
        raised(BadMatrix, times_matrix, matrix([1]), None)
        raised(BadMatrix, inverse, [((1, 1),)])


if __name__ == "__main__":
    unittest.main()
