"""Points [59] and [60]: how many ties always have a divided part."""

import unittest

from draws import Draws, only_tuples
from listpicks.bundles import is_bundle, is_divided
from listpicks.dividedparts import divided_part, part_count
from listpicks.enoughmarks import enough
from listpicks.enoughties import enough_ties, fewest_parts, lacking_bundle, tie_marks, tie_moduli, web_pieces
from listpicks.webcolours import two_sides
from listpicks.zerolots import adds_up
from plain_bundles import bundles_of, plain_divided
from plain_webs import BARE, LARGEST, ONE, PATH, RING, SIDES, THREE, TWO_THREE, complete, drawn_web, ring, small_webs
from refusing import assert_refused

POWERS = (2, 3, 4, 5, 7, 8, 9, 11, 13, 16)
OTHERS = (6, 10, 12, 14, 15)
# Two rings of three and one of four; a ring of three among others, and a place alone.
MIXED = (10, ((0, 1), (0, 2), (1, 2), (3, 4), (3, 6), (4, 5), (5, 6), (7, 8), (7, 9), (8, 9)))
HIDDEN = (6, ((0, 3), (0, 5), (1, 2), (3, 5)))


def plain_pieces(web):
    """Lots of places joined until no tie leads out."""
    lots = [{place} for place in range(web[0])]
    for tie in web[1]:
        joined = [lot for lot in lots if lot & set(tie)]
        lots = [lot for lot in lots if not lot & set(tie)] + [set().union(*joined)]
    return tuple(sorted(tuple(sorted(lot)) for lot in lots))


def plain_odd(web, piece):
    return two_sides((web[0], tuple(tie for tie in web[1] if tie[0] in piece))) is None


def plain_size(q, web):
    """The size that [59] tells of."""
    total = 0
    for piece in plain_pieces(web):
        total += (q - 1) * (len(piece) - 1)
        if plain_odd(web, piece):
            total += q - 1 if q % 2 else q // 2 - 1
    return total


class Pieces(unittest.TestCase):
    def test_drawn_webs(self):
        draws = Draws(401)
        for web in [drawn_web(draws, 8, draws.between(1, 9)) for _ in range(150)] + small_webs(4):
            found = web_pieces(web)
            self.assertEqual(found, plain_pieces(web))
            self.assertTrue(only_tuples(found))

    def test_edges(self):
        self.assertEqual(web_pieces(ONE), ((0,),))
        self.assertEqual(web_pieces(BARE), ((0,), (1,), (2,)))
        self.assertEqual(web_pieces((4, ((0, 2),))), ((0, 2), (1,), (3,)))
        self.assertEqual(web_pieces((4, ((0, 3), (1, 2)))), ((0, 3), (1, 2)))
        self.assertEqual(web_pieces(MIXED), ((0, 1, 2), (3, 4, 5, 6), (7, 8, 9)))
        self.assertEqual(web_pieces(HIDDEN), ((0, 3, 5), (1, 2), (4,)))
        self.assertEqual(web_pieces(LARGEST), (tuple(range(10)),))


class Marks(unittest.TestCase):
    def test_what_they_are(self):
        for q in range(2, 17):
            last = (q,) if q % 2 else (q // 2,) if q > 2 else ()
            self.assertEqual(tie_moduli(q, THREE), (q, q) + last)
            self.assertEqual(tie_moduli(q, RING), (q, q, q))
            self.assertEqual(tie_moduli(q, MIXED), ((q, q) + last + (q,) * 3 + (q, q) + last))
            self.assertEqual(tie_moduli(q, HIDDEN), ((q, q) + last + (q,)))
            self.assertEqual((tie_moduli(q, ONE), tie_moduli(q, BARE)), ((), ()))
            self.assertEqual((tie_marks(q, ONE), tie_marks(q, BARE)), ((), ()))
            self.assertEqual(tie_marks(q, PATH), ((1, 0), (1, 1)))
        self.assertEqual(tie_marks(2, THREE), ((1, 0), (0, 1), (1, 1)))
        self.assertEqual(tie_marks(3, THREE), ((1, 0, 1), (0, 1, 1), (1, 1, 0)))
        self.assertEqual(tie_marks(4, THREE), ((1, 0, 1), (0, 1, 1), (1, 1, 1)))
        self.assertEqual(tie_marks(3, HIDDEN), ((1, 0, 1, 0), (0, 1, 1, 0), (0, 0, 0, 1), (1, 1, 0, 0)))
        self.assertEqual(tie_marks(6, HIDDEN), ((1, 0, 1, 0), (0, 1, 1, 0), (0, 0, 0, 1), (1, 1, 1, 0)))
        self.assertEqual(tie_marks(2, HIDDEN), ((1, 0, 0), (0, 1, 0), (0, 0, 1), (1, 1, 0)))

    def test_parts_are_divided_if_their_marks_add_up_to_nothing(self):
        draws = Draws(402)
        seen = {True: 0, False: 0}
        for _ in range(150):
            web = drawn_web(draws, 6, 6)
            q = draws.between(2, 6) if draws.below(3) else draws.between(7, 16)
            moduli, marks = tie_moduli(q, web), tie_marks(q, web)
            self.assertTrue(only_tuples(moduli) and only_tuples(marks))
            self.assertEqual([len(mark) for mark in marks], [len(moduli)] * len(web[1]))
            for _ in range(60):
                part = tuple(draws.below(4) if q < 7 else draws.one_of((0, q // 2, q // 2, q - q // 2,
                                                                        q)) for _ in web[1])
                if any(part):
                    single = tuple(mark for mark, many in zip(marks, part) for _ in range(many))
                    wanted = not any(adds_up(moduli, single, range(len(single))))
                    seen[wanted] += 1
                    self.assertIs(is_divided(q, web, part, part), wanted)
        self.assertGreater(min(seen.values()), 60)


class Enough(unittest.TestCase):
    def test_all_bundles_of_small_webs(self):
        for web in [*small_webs(3), RING, complete(4), (4, ((0, 1), (0, 2), (0, 3), (1, 2))),
                    (5, ((0, 1), (0, 2), (1, 2), (3, 4)))]:
            for q in (2, 3, 4, 5) if web[0] < 4 else (2, 3):
                size = enough_ties(q, web)
                if web[1]:
                    for bundle in bundles_of(web, size):
                        self.assertIsNot(divided_part(q, web, bundle), None)
                else:
                    self.assertEqual(size, 1)
                lacking = lacking_bundle(q, web)
                self.assertEqual(sum(lacking), size - 1)
                self.assertEqual(plain_divided(q, web, lacking), [])

    def test_drawn_webs(self):
        draws = Draws(403)
        for _ in range(150):
            web = drawn_web(draws, 6, 9)
            for q in POWERS:
                size = plain_size(q, web)
                self.assertEqual(enough_ties(q, web), size + 1)
                self.assertEqual(size + 1, enough(tie_moduli(q, web)) if web[1] else 1)
                if web[1] and q ** web[0] <= 20000:
                    bundle = [0] * len(web[1])
                    for _ in range(size + 1):
                        bundle[draws.below(len(bundle))] += 1
                    found = divided_part(q, web, tuple(bundle))
                    self.assertIs(is_divided(q, web, tuple(bundle), found), True)

    def test_bundles_that_have_none(self):
        # They are told for all q.
        draws = Draws(404)
        for web in [drawn_web(draws, 7, 9) for _ in range(60)] + [MIXED, LARGEST, SIDES, HIDDEN, complete(6),
                                                                  TWO_THREE]:
            for q in range(2, 17):
                found = lacking_bundle(q, web)
                self.assertTrue(only_tuples(found))
                self.assertIs(is_bundle(web, found), True)
                self.assertEqual(sum(found), plain_size(q, web))
                if q ** web[0] <= 20000:
                    self.assertIs(divided_part(q, web, found), None)
                    self.assertEqual(part_count(q, web, found), 1)

    def test_edges(self):
        for q in POWERS:
            self.assertEqual((enough_ties(q, ONE), enough_ties(q, BARE)), (1, 1))
            self.assertEqual((lacking_bundle(q, ONE), lacking_bundle(q, BARE)), ((), ()))
            self.assertEqual(enough_ties(q, PATH), 2 * q - 1)
            self.assertEqual(enough_ties(q, RING), 3 * q - 2)
            self.assertEqual(lacking_bundle(q, PATH), (q - 1, q - 1))
        self.assertEqual([enough_ties(q, THREE) for q in (2, 3, 4, 5, 8, 9, 16)], [3, 7, 8, 13, 18, 25, 38])
        self.assertEqual(enough_ties(16, LARGEST), 15 * 9 + 7 + 1)
        self.assertEqual(sum(lacking_bundle(16, LARGEST)), 142)
        self.assertEqual(enough_ties(4, MIXED), 2 * (3 * 2 + 1) + 9 + 1)
        self.assertEqual(lacking_bundle(2, RING).count(1), 3)
        self.assertEqual(sorted(lacking_bundle(4, ring(5))), [1, 3, 3, 3, 3])
        self.assertEqual(sorted(lacking_bundle(5, ring(5))), [4] * 5)

    def test_no_powers_of_primes(self):
        for q in OTHERS:
            for web in (ONE, BARE, PATH, THREE, LARGEST):
                assert_refused(self, q, lambda: enough_ties(q, web), lambda: fewest_parts(q, web, 200),
                               lambda: fewest_parts(q, web, 0))
        # Here it may be more ties that are needed, and nothing is told.
        self.assertEqual(tie_moduli(6, THREE), (6, 6, 3))
        self.assertEqual(sum(lacking_bundle(6, THREE)), 12)


class FewestParts(unittest.TestCase):
    def test_drawn_bundles(self):
        draws = Draws(405)
        above = 0
        for _ in range(150):
            web = drawn_web(draws, 5, 8)
            q = draws.one_of((2, 2, 3, 4, 5))
            if web[1]:
                bundle = tuple(draws.below(4) for _ in web[1])
                least = fewest_parts(q, web, sum(bundle))
                count = part_count(q, web, bundle)
                self.assertEqual(least, 2 ** max(0, sum(bundle) - plain_size(q, web)))
                self.assertGreaterEqual(count, least)
                above += least > 1
        self.assertGreater(above, 20)

    def test_edges(self):
        self.assertEqual([fewest_parts(3, THREE, many) for many in (0, 5, 6, 7, 8, 10)], [1, 1, 1, 2, 4, 16])
        self.assertEqual(part_count(3, THREE, (2, 2, 2)), 1)
        self.assertEqual(part_count(3, THREE, (3, 2, 2)), 2)
        self.assertEqual(fewest_parts(2, PATH, 200), 2 ** 198)
        self.assertEqual(part_count(2, PATH, (100, 100)), 2 ** 198)
        self.assertEqual((fewest_parts(2, ONE, 0), fewest_parts(16, LARGEST, 200)), (1, 2 ** 58))


if __name__ == "__main__":
    unittest.main()
