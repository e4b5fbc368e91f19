"""Points [42] and [43]: lots that add up to nothing."""

import unittest

from draws import ODD_VALUES, Draws, only_tuples
from listpicks.zerolots import adds_up, is_zero_lot, sign_count, zero_count, zero_lot
from plain_lots import OTHERS, POWERS, drawn_marks, plain_lots, plain_rest, plain_zero_lots

MARKS = ((1, 2), (2, 0), (0, 1), (1, 0), (2, 2))


class Lots(unittest.TestCase):
    def test_all_lots_of_drawn_marks(self):
        draws = Draws(281)
        seen = {True: 0, False: 0}
        for _ in range(150):
            moduli = draws.one_of(POWERS + OTHERS + ((256,), (16, 16), (2, 128)))
            marks = drawn_marks(draws, moduli, draws.between(0, 7))
            good = plain_zero_lots(moduli, marks)
            for lot in plain_lots(len(marks)):
                self.assertEqual(adds_up(moduli, marks, lot), plain_rest(moduli, marks, lot))
                self.assertIs(is_zero_lot(moduli, marks, lot), lot in good and lot != ())
            self.assertEqual(zero_count(moduli, marks), len(good))
            self.assertEqual(sign_count(moduli, marks), sum((-1) ** len(lot) for lot in good))
            found = zero_lot(moduli, marks)
            seen[found is None] += 1
            if len(good) == 1:
                self.assertIs(found, None)
            else:
                self.assertIn(found, good[1:])
                self.assertTrue(only_tuples(found))
                self.assertEqual(adds_up(moduli, marks, found), (0,) * len(moduli))
        self.assertGreater(min(seen.values()), 30)

    def test_edges(self):
        self.assertEqual(adds_up((3, 3), MARKS, ()), (0, 0))
        self.assertEqual(adds_up((3, 3), MARKS, (0, 4)), (0, 1))
        self.assertEqual((zero_count((3, 3), MARKS), sign_count((3, 3), MARKS)), (4, 0))
        self.assertEqual((zero_count((4,), ()), sign_count((4,), ())), (1, 1))
        self.assertIs(zero_lot((4,), ()), None)
        self.assertIs(zero_lot((4,), ((3,),)), None)
        self.assertEqual(zero_lot((4,), ((0,),)), (0,))
        self.assertEqual(zero_lot((4,), ((2,), (2,))), (0, 1))
        self.assertEqual(zero_lot((2, 2), ((1, 0), (1, 1), (0, 0))), (2,))
        self.assertIn(zero_lot((3,), ((1,), (1,), (2,))), ((0, 2), (1, 2)))
        self.assertEqual((zero_count((3,), ((0,),)), sign_count((3,), ((0,),))), (2, 0))

    def test_as_many_marks_as_there_may_be(self):
        for moduli, mark in (((256,), (255,)), ((4, 4, 4, 4), (1, 2, 3, 1)), ((2,), (1,)), ((6,), (5,))):
            marks = (mark,) * 40
            order = 1
            while any(order * one % modulus for one, modulus in zip(mark, moduli)):
                order += 1
            wanted, signs = 0, 0
            ways = 1
            for size in range(41):
                if size % order == 0:
                    wanted += ways
                    signs += (-1) ** size * ways
                ways = ways * (40 - size) // (size + 1)
            self.assertEqual((zero_count(moduli, marks), sign_count(moduli, marks)), (wanted, signs))
            found = zero_lot(moduli, marks)
            if order > 40:
                self.assertIs(found, None)
            else:
                self.assertIs(is_zero_lot(moduli, marks, found), True)
        self.assertEqual(zero_count((2,), ((0,),) * 40), 2 ** 40)
        self.assertEqual(sign_count((2,), ((1,),) * 40), 2 ** 39)
        draws = Draws(282)
        for moduli in ((256,), (16, 16), (4, 4, 4, 4), (2, 2, 64), (15, 17)):
            marks = drawn_marks(draws, moduli, 40)
            self.assertIs(is_zero_lot(moduli, marks, zero_lot(moduli, marks)), True)


class WhatZeroLotsAre(unittest.TestCase):
    def test_near_ones(self):
        self.assertIs(is_zero_lot((3, 3), MARKS, (0, 1, 2)), True)
        for value in ([0, 1, 2], (0, 2, 1), (0, 1), (0, 1, 1, 2), (0, 0, 1, 2), (False, 1, 2), (0, True, 2), (0, 1, 2.0),
                      (0, 1, "2"), (0, 1, None), (0, 1, 5), (-5, 1, 2), (), (0,), ((0, 1, 2),), {0: 1}, "012",
                      (0, 1, (2,)), range(3)):
            self.assertIs(is_zero_lot((3, 3), MARKS, value), False, value)
        self.assertIs(is_zero_lot((2,), ((0,),), (0,)), True)
        self.assertIs(is_zero_lot((2,), ((0,),), (False,)), False)
        self.assertIs(is_zero_lot((2,), ((0,),), (1,)), False)
        self.assertIs(is_zero_lot((2,), ((0,),), (-1,)), False)
        self.assertIs(is_zero_lot((2,), (), ()), False)

    def test_values_of_every_kind(self):
        for value in ODD_VALUES + ((),):
            self.assertIs(is_zero_lot((2, 2), ((1, 0), (0, 1), (1, 1)), value), False, value)
            self.assertIs(is_zero_lot((2,), (), value), False, value)


if __name__ == "__main__":
    unittest.main()
