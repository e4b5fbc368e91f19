"""Points [43], [44] and [45]: how many marks are enough for a lot that adds up to nothing."""

import unittest
from itertools import product

from draws import Draws, is_told_polynomial, plain_degree, plain_worth
from listpicks.enoughmarks import enough, fewest_lots, lacking_marks, lot_condition
from listpicks.zerolots import is_zero_lot, sign_count, zero_count, zero_lot
from plain_lots import OTHERS, POWERS, drawn_marks, plain_rest
from refusing import assert_refused

# Moduli, and the index of the first one that is no power of a prime, or of another one than the first.
WRONG = (((6,), 0), ((2, 6), 1), ((6, 2), 0), ((2, 3), 1), ((4, 2, 9), 2), ((3, 9, 2, 3), 2), ((2, 2, 2, 6), 3),
         ((10, 6), 0), ((4, 12, 3), 1), ((5, 25, 2), 2), ((251,), None), ((3, 2, 6), 1), ((255,), 0), ((7, 6), 1),
         ((2, 4, 8, 4), None), ((256,), None), ((2, 9, 6), 1), ((125, 2), 1), ((12, 12), 0))
PRIMES = {2: (2, 4, 8, 16, 2, 4), 3: (3, 9, 27), 5: (5, 25), 7: (7, 49), 13: (13,)}


def prime_of(moduli):
    return next(k for k in range(2, 257) if moduli[0] % k == 0)


class Enough(unittest.TestCase):
    def test_moduli(self):
        self.assertEqual((enough((3, 3)), enough((2,)), enough((256,)), enough((4, 4, 4, 4)), enough((2, 4, 8, 4))),
                         (5, 2, 256, 13, 15))
        self.assertEqual((enough((251,)), enough((101,)), enough((243,)), enough((9, 27)), enough((2, 128))),
                         (251, 101, 243, 35, 129))
        for moduli in POWERS:
            self.assertEqual(enough(moduli), sum(modulus - 1 for modulus in moduli) + 1)

    def test_all_moduli_alone(self):
        for modulus in range(2, 257):
            prime = prime_of((modulus,))
            left = modulus
            while left % prime == 0:
                left //= prime
            if left == 1:
                self.assertEqual(enough((modulus,)), modulus)
            else:
                assert_refused(self, 0, lambda: enough((modulus,)))

    def test_others_are_refused(self):
        for moduli, at in WRONG:
            marks = ((0,) * len(moduli),) * 3
            calls = (lambda: enough(moduli), lambda: fewest_lots(moduli, 3), lambda: fewest_lots(moduli, 0),
                     lambda: lot_condition(moduli, marks), lambda: lot_condition(moduli, marks[:1]))
            if at is None:
                for call in calls:
                    call()
            else:
                assert_refused(self, at, *calls)
        for moduli in OTHERS:
            at = 0 if moduli[0] in (6, 10) else next(k for k, one in enumerate(moduli) if one % prime_of(moduli)
                                                     or one == 6)
            assert_refused(self, at, lambda: enough(moduli), lambda: fewest_lots(moduli, 5))

    def test_so_many_marks_always_have_a_lot(self):
        draws = Draws(291)
        for _ in range(200):
            moduli = draws.one_of(POWERS + ((8,), (4, 4, 4), (27,), (3, 9), (13,), (37,)))
            many = enough(moduli)
            marks = drawn_marks(draws, moduli, many)
            if draws.below(2):
                marks = tuple(tuple(one and 1 for one in mark) for mark in marks)
            self.assertIs(is_zero_lot(moduli, marks, zero_lot(moduli, marks)), True)
            more = marks + drawn_marks(draws, moduli, draws.below(4))
            self.assertEqual(sign_count(moduli, more) % prime_of(moduli), 0)

    def test_all_marks_of_small_moduli(self):
        for moduli in ((2,), (3,), (4,), (2, 2), (2, 2, 2)):
            every = list(product(*[range(modulus) for modulus in moduli]))
            for marks in product(every, repeat=enough(moduli)):
                self.assertIsNot(zero_lot(moduli, marks), None)
                self.assertGreaterEqual(zero_count(moduli, marks), fewest_lots(moduli, len(marks)))

    def test_lacking_marks(self):
        self.assertEqual(lacking_marks((2, 3)), ((1, 0), (0, 1), (0, 1)))
        self.assertEqual(lacking_marks((2,)), ((1,),))
        self.assertEqual(lacking_marks((4, 2, 6)), ((1, 0, 0),) * 3 + ((0, 1, 0),) + ((0, 0, 1),) * 5)
        for moduli in POWERS:
            marks = lacking_marks(moduli)
            self.assertEqual(len(marks), enough(moduli) - 1)
            self.assertEqual(marks, tuple(tuple(int(k == at) for k in range(len(moduli)))
                                          for at, modulus in enumerate(moduli) for _ in range(modulus - 1)))
            self.assertIs(zero_lot(moduli, marks), None)
        # Of others they have none, either, but nothing more is said of these.
        for moduli in OTHERS:
            self.assertIs(zero_lot(moduli, lacking_marks(moduli)), None)


class FewestLots(unittest.TestCase):
    def test_never_fewer(self):
        draws = Draws(292)
        for _ in range(200):
            moduli = draws.one_of(POWERS)
            marks = drawn_marks(draws, moduli, draws.between(0, 16))
            least = fewest_lots(moduli, len(marks))
            self.assertEqual(least, 2 ** max(0, len(marks) - enough(moduli) + 1))
            self.assertGreaterEqual(zero_count(moduli, marks), least)

    def test_lacking_marks_have_just_so_many(self):
        for moduli in POWERS:
            lacking = lacking_marks(moduli)
            for many in range(len(lacking), 16):
                marks = lacking + ((0,) * len(moduli),) * (many - len(lacking))
                self.assertEqual(zero_count(moduli, marks), fewest_lots(moduli, many))

    def test_edges(self):
        self.assertEqual(fewest_lots((2, 4), 7), 8)
        self.assertEqual([fewest_lots((3,), many) for many in range(6)], [1, 1, 1, 2, 4, 8])
        self.assertEqual(fewest_lots((256,), 40), 1)
        self.assertEqual(fewest_lots((2,), 40), 2 ** 39)
        self.assertEqual(fewest_lots((16, 16), 0), 1)


class Conditions(unittest.TestCase):
    def assert_condition(self, moduli, marks):
        prime = prime_of(moduli)
        found = lot_condition(moduli, marks)
        self.assertTrue(is_told_polynomial(prime, len(marks), found))
        self.assertTrue(all(max(powers) <= 1 for powers, _ in found))
        for choice in product((0, 1), repeat=len(marks)):
            lot = tuple(at for at, one in enumerate(choice) if one)
            self.assertEqual(plain_worth(prime, found, choice), int(not any(plain_rest(moduli, marks, lot))))
        self.assertLessEqual(plain_degree(found), enough(moduli) - 1)

    def test_drawn_marks(self):
        draws = Draws(293)
        for _ in range(120):
            moduli = draws.one_of(POWERS)
            self.assert_condition(moduli, drawn_marks(draws, moduli, draws.between(1, 7)))

    def test_primes_over_101(self):
        draws = Draws(294)
        for moduli in ((103,), (251,), (127,), (101,), (2, 2), (128, 2), (243,)):
            self.assert_condition(moduli, drawn_marks(draws, moduli, 4))
        self.assertEqual(lot_condition((251,), ((1,), (250,))), (((0, 0), 1), ((0, 1), 250), ((1, 0), 250), ((1, 1), 2)))

    def test_ten_marks(self):
        draws = Draws(295)
        for moduli in ((2, 2, 2), (3, 3), (4,)):
            self.assert_condition(moduli, drawn_marks(draws, moduli, 10))
        found = lot_condition((11,), ((1,),) * 10)
        self.assertEqual(len(found), 2 ** 10)
        self.assertEqual(found, tuple((powers, (-1) ** sum(powers) % 11) for powers in product((0, 1), repeat=10)))

    def test_edges(self):
        self.assertEqual(lot_condition((3,), ((1,), (2,))), (((0, 0), 1), ((0, 1), 2), ((1, 0), 2), ((1, 1), 2)))
        self.assertEqual(lot_condition((2,), ((1,),)), (((0,), 1), ((1,), 1)))
        self.assertEqual(lot_condition((5,), ((0,),)), (((0,), 1),))
        self.assertEqual(lot_condition((4, 2), ((0, 0), (0, 0))), (((0, 0), 1),))
        self.assertEqual(lot_condition((5,), ((2,),)), (((0,), 1), ((1,), 4)))


if __name__ == "__main__":
    unittest.main()
