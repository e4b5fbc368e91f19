"""Points [52] and [53]: the game, and who wins it."""

import unittest

from draws import ODD_VALUES, Draws, all_below, only_tuples
from listpicks.games import after, house_wins, is_answer, is_offer, is_stand, losing_offer
from plain_games import plain_after, plain_answers, plain_losing, plain_offers
from plain_lots import plain_lots
from plain_webs import BARE, LARGEST, ONE, PATH, RING, SEVEN, THREE, TWO_THREE, complete, drawn_web, ring, small_webs
from refusing import assert_refused


def drawn_stand(draws, n, most=3):
    return tuple(draws.between(0, most) for _ in range(n))


class Rules(unittest.TestCase):
    def test_drawn_stands(self):
        draws = Draws(351)
        for _ in range(150):
            web = drawn_web(draws)
            stand = drawn_stand(draws, web[0])
            self.assertIs(is_stand(web, stand), True)
            offers = plain_offers(stand)
            for lot in plain_lots(web[0]):
                self.assertIs(is_offer(stand, lot), lot in offers)
            for offer in offers[:8]:
                answers = plain_answers(web, stand, offer)
                for lot in plain_lots(web[0]):
                    self.assertIs(is_answer(web, stand, offer, lot), lot in answers)
                for answer in answers:
                    found = after(stand, offer, answer)
                    self.assertEqual(found, plain_after(stand, offer, answer))
                    self.assertIs(is_stand(web, found), True)
                    self.assertLess(sum(found), sum(stand))

    def test_edges(self):
        self.assertIs(is_answer(RING, (2, 1, 2, 2), (0, 1), (1,)), True)
        self.assertIs(is_answer(RING, (2, 1, 2, 2), (0, 1), ()), False)
        self.assertIs(is_answer(RING, (2, 1, 2, 2), (0, 1), (0, 1)), False)
        self.assertIs(is_answer(RING, (2, 1, 2, 2), (0, 2), ()), True)
        self.assertIs(is_answer(RING, (2, 1, 2, 2), (0, 2), (0, 2)), True)
        self.assertEqual(after((2, 1, 2, 2), (0, 1), (1,)), (1, 0, 2, 2))
        self.assertEqual(after((2, 1), (0,), ()), (1, 1))
        self.assertEqual(after((12,), (0,), (0,)), (0,))
        # An offer without an answer: both must be answered, and they are at one tie.
        self.assertEqual([lot for lot in plain_lots(2) if is_answer((2, ((0, 1),)), (1, 1), (0, 1), lot)], [])

    def test_stands_near_ones(self):
        for stand in ((0, 0, 0), (12, 12, 12), (0, 1, 12)):
            self.assertIs(is_stand(PATH, stand), True)
        for value in ([1, 1, 1], (1, 1), (1, 1, 1, 1), (1, 13, 1), (-1, 1, 1), (True, 1, 1), (1, False, 1), (1, 1.0, 1),
                      (1, None, 1), (1, "1", 1), ((1, 1, 1),), (), "111", None, 3, {0: 1, 1: 1, 2: 1}):
            self.assertIs(is_stand(PATH, value), False, value)

    def test_offers_near_ones(self):
        stand = (2, 0, 1, 3)
        for offer in ((0,), (2,), (0, 2, 3), (2, 3)):
            self.assertIs(is_offer(stand, offer), True)
        for value in ((), [0], (1,), (0, 1), (0, 0), (2, 0), (4,), (0, 4), (-1,), (-2, 0), (False,), (0, True), (0.0,),
                      ("0",), (None,), ((0,),), "0", 0, None, {0: 1}, (0, 2, 3, 3), range(1)):
            self.assertIs(is_offer(stand, value), False, value)
        self.assertIs(is_offer((0, 0), (0,)), False)

    def test_answers_near_ones(self):
        stand, offer = (2, 2, 2, 1), (0, 2, 3)
        self.assertIs(is_answer(PATH, (2, 2, 1), (0, 2), (0, 2)), True)
        web = (4, ((0, 1), (0, 2)))
        for answer in ((3,), (0, 3), (2, 3)):
            self.assertIs(is_answer(web, stand, offer, answer), True)
        for value in ([3], (3, 0), (0,), (), (0, 2, 3), (1, 3), (3, 3), (2, 2, 3), (0, 3.0), (False, 3), ("0", 3), (None, 3),
                      ((3,),), (-1, 3), (3, 4), "3", 3, None, {3: 1}):
            self.assertIs(is_answer(web, stand, offer, value), False, value)
        self.assertIs(is_answer(web, (2, 2, 2, 2), (1, 2), (True, 2)), False)

    def test_values_of_every_kind(self):
        for value in ODD_VALUES:
            self.assertIs(is_stand(RING, value), False, value)
            self.assertIs(is_offer((1, 0, 0, 2), value), False, value)
            self.assertIs(is_answer(RING, (1, 2, 2, 2), (0, 1), value), False, value)
            self.assertIs(is_answer(RING, (2, 2, 2, 2), (0, 1), value), False, value)
        self.assertIs(is_stand(RING, ()), False)


class WhoWins(unittest.TestCase):
    def assert_game(self, web, stand, known):
        wanted = plain_losing(web, stand, known)
        self.assertEqual(losing_offer(web, stand), wanted, (web, stand))
        self.assertIs(house_wins(web, stand), wanted is None, (web, stand))
        return wanted is None

    def test_all_small_games(self):
        for n in (1, 2, 3):
            for web in small_webs(n):
                known = {}
                for stand in all_below((4,) * n):
                    self.assert_game(web, stand, known)

    def test_drawn_games(self):
        draws = Draws(352)
        seen = {True: 0, False: 0}
        for _ in range(120):
            web = drawn_web(draws, 6, 9)
            stand = drawn_stand(draws, web[0], 2 if web[0] > 4 else 3)
            seen[self.assert_game(web, stand, {})] += 1
        self.assertGreater(min(seen.values()), 30)

    def test_greater_numbers_and_fewer_ties_do_no_harm(self):
        draws = Draws(353)
        some = 0
        for _ in range(150):
            web = drawn_web(draws, 5, 8)
            stand = drawn_stand(draws, web[0], 2)
            if house_wins(web, stand):
                some += 1
                more = tuple(number and number + draws.below(2) for number in stand)
                self.assertIs(house_wins(web, more), True)
                self.assertIs(house_wins((web[0], tuple(tie for tie in web[1] if draws.below(3))), stand), True)
        self.assertGreater(some, 40)

    def test_edges(self):
        self.assertIs(house_wins(RING, (2, 2, 2, 2)), True)
        self.assertIs(losing_offer(RING, (2, 2, 2, 2)), None)
        self.assertEqual(losing_offer(THREE, (2, 2, 2)), (0, 1, 2))
        # All places are done, or none is at a tie.
        for web in (ONE, BARE, RING, LARGEST):
            self.assertIs(house_wins(web, (0,) * web[0]), True)
            self.assertIs(losing_offer(web, (0,) * web[0]), None)
        self.assertIs(house_wins(ONE, (1,)), True)
        self.assertIs(house_wins(BARE, (1, 12, 1)), True)
        self.assertEqual(losing_offer((2, ((0, 1),)), (1, 1)), (0, 1))
        self.assertIs(losing_offer((2, ((0, 1),)), (0, 1)), None)
        self.assertIs(losing_offer((2, ((0, 1),)), (1, 2)), None)
        self.assertEqual(losing_offer(PATH, (1, 2, 1)), (0, 1))

    def test_rings_and_all_ties(self):
        for n in range(3, 8):
            self.assertIs(house_wins(ring(n), (2,) * n), n % 2 == 0)
            self.assertIs(house_wins(ring(n), (2,) * (n - 1) + (3,)), True)
        for n in (2, 3, 4):
            self.assertIs(house_wins(complete(n), (n,) * n), True)
            self.assertEqual(losing_offer(complete(n), (n - 1,) * n), tuple(range(n)))

    def test_webs_of_the_document(self):
        self.assertIs(house_wins(TWO_THREE, (2,) * 5), True)
        self.assertIs(house_wins(SEVEN, (2,) * 7), False)
        for answer in plain_answers(SEVEN, (2,) * 7, (4, 5)):
            self.assertIs(house_wins(SEVEN, plain_after((2,) * 7, (4, 5), answer)), False)
        found = losing_offer(SEVEN, (2,) * 7)
        self.assertEqual(found, plain_losing(SEVEN, (2,) * 7, {}))
        self.assertTrue(only_tuples(found))

    def test_too_many_stands_are_refused(self):
        for web, stand, count in ((BARE, (12, 12, 17), 3042), (LARGEST, (2,) * 10, 3 ** 10), (LARGEST, (12,) * 10, 13 ** 10),
                                  (RING, (2, 6, 10, 12), 3003), (complete(5), (4, 4, 4, 4, 4), 3125)):
            assert_refused(self, count, lambda: house_wins(web, stand), lambda: losing_offer(web, stand))

    def test_just_so_many(self):
        for web in (complete(5), (5, complete(4)[1]), ring(5)):
            self.assertIs(house_wins(web, (4, 4, 4, 5, 3)), True)
            self.assertIs(losing_offer(web, (4, 4, 4, 5, 3)), None)
        self.assertIs(house_wins(ring(7), (1, 1, 1, 2, 4, 4, 4)), False)
        self.assertEqual(losing_offer(ring(7), (1, 1, 1, 2, 4, 4, 4)), (0,))
        self.assertIs(house_wins(RING, (9, 9, 9, 2)), True)
        self.assertIs(house_wins((8, tuple(tie for tie in LARGEST[1] if tie[1] < 8)), (2,) * 6 + (1, 1)), False)


if __name__ == "__main__":
    unittest.main()
