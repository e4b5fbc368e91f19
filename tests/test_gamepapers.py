"""Point [54]: papers by which the house wins."""

import unittest

from draws import ODD_VALUES, Draws, all_below, only_tuples
from listpicks.gamepapers import game_paper, is_game_paper, kept_answer
from listpicks.games import after, house_wins, is_answer
from listpicks.webcolours import length_paper
from plain_games import plain_answers, plain_offers
from plain_webs import BARE, LARGEST, ONE, PATH, RING, SEVEN, SIDES, THREE, TWO_THREE, complete, drawn_web, plain_papers


def drawn_stand(draws, n, most):
    return tuple(draws.between(0, most) for _ in range(n))


class Papers(unittest.TestCase):
    def test_drawn_stands(self):
        draws = Draws(361)
        seen = {True: 0, False: 0}
        for _ in range(200):
            web = drawn_web(draws)
            stand = drawn_stand(draws, web[0], draws.between(1, 3))
            good = plain_papers(web, stand)
            found = game_paper(web, stand)
            seen[bool(good)] += 1
            if good:
                self.assertIn(found, good)
                self.assertTrue(only_tuples(found))
            else:
                self.assertIs(found, None)
            for powers in all_below((4,) * web[0]):
                self.assertIs(is_game_paper(web, stand, powers), powers in good)
            if 0 not in stand:
                self.assertIs(length_paper(web, stand) is None, not good)
        self.assertGreater(min(seen.values()), 20)

    def test_whoever_has_one_wins(self):
        draws = Draws(362)
        some = 0
        for _ in range(200):
            web = drawn_web(draws, 6, 9)
            stand = drawn_stand(draws, web[0], 2 if web[0] > 4 else 3)
            if game_paper(web, stand) is not None:
                some += 1
                self.assertIs(house_wins(web, stand), True)
        self.assertGreater(some, 50)

    def test_edges(self):
        self.assertEqual(game_paper(RING, (2, 2, 2, 2)), (1, 1, 1, 1))
        self.assertIs(game_paper(THREE, (2, 2, 2)), None)
        self.assertEqual((game_paper(ONE, (0,)), game_paper(ONE, (12,)), game_paper(BARE, (0, 1, 2))), ((0,), (0,), (0,) * 3))
        self.assertEqual(game_paper(THREE, (0, 0, 0)), (0, 0, 0))
        self.assertEqual(game_paper(PATH, (1, 0, 1)), (0, 0, 0))
        self.assertEqual(game_paper(PATH, (1, 2, 2)), (0, 1, 1))
        self.assertIs(game_paper(PATH, (1, 2, 1)), None)
        self.assertEqual(game_paper(PATH, (0, 2, 1)), (0, 1, 0))
        # Won, but without a paper.
        self.assertIs(game_paper(TWO_THREE, (2,) * 5), None)
        self.assertIs(game_paper(SEVEN, (2,) * 7), None)

    def test_largest_webs(self):
        draws = Draws(363)
        some = 0
        for _ in range(60):
            web = draws.one_of((LARGEST, SIDES, complete(6)))
            stand = tuple(draws.between(0, 12 if draws.below(2) else 4) for _ in range(web[0]))
            found = game_paper(web, stand)
            if found is not None:
                some += 1
                self.assertIs(is_game_paper(web, stand, found), True)
                self.assertTrue(all(power < max(1, number) for power, number in zip(found, stand)))
        self.assertGreater(some, 10)
        self.assertEqual(sorted(game_paper(complete(6), (6,) * 6)), list(range(6)))


class WhatPapersAre(unittest.TestCase):
    def test_near_ones(self):
        stand = (2, 2, 2, 2)
        self.assertIs(is_game_paper(RING, stand, (1, 1, 1, 1)), True)
        for value in ([1, 1, 1, 1], (1, 1, 1), (1, 1, 1, 1, 0), (True, 1, 1, 1), (1, 1, 1, True), (1, 1.0, 1, 1),
                      (2, 0, 1, 1), (0, 0, 0, 0), (1, 1, 1, 0), (-1, 1, 2, 2), (1, None, 1, 1), ("1", 1, 1, 1), (),
                      ((1, 1, 1, 1),), None, 1111, "1111", {0: 1}, (0, 2, 0, 2), (1, 1, 1, 10 ** 30)):
            self.assertIs(is_game_paper(RING, stand, value), False, value)
        self.assertIs(is_game_paper(RING, (3, 3, 3, 3), (2, 0, 1, 1)), True)
        self.assertIs(is_game_paper(RING, (3, 1, 3, 3), (2, 0, 1, 1)), True)
        self.assertIs(is_game_paper(RING, (2, 1, 3, 3), (2, 0, 1, 1)), False)
        # Places done have no ties: the powers there are 0.
        self.assertIs(is_game_paper(RING, (0, 2, 2, 2), (0, 1, 0, 1)), True)
        self.assertIs(is_game_paper(RING, (0, 2, 2, 2), (1, 1, 0, 1)), False)
        self.assertIs(is_game_paper(RING, (0, 2, 2, 2), (1, 1, 1, 1)), False)
        self.assertIs(is_game_paper(RING, (0, 2, 2, 2), (0, 1, 0, True)), False)
        self.assertIs(is_game_paper(ONE, (0,), (0,)), True)
        self.assertIs(is_game_paper(ONE, (0,), (False,)), False)
        self.assertIs(is_game_paper(THREE, (3, 3, 3), (1, 1, 1)), False)

    def test_values_of_every_kind(self):
        for value in ODD_VALUES + ((),):
            self.assertIs(is_game_paper(RING, (12, 12, 12, 12), value), False, value)
            self.assertIs(is_game_paper(ONE, (0,), value), False, value)
            self.assertIs(is_game_paper(ONE, (5,), value), False, value)


class KeptAnswers(unittest.TestCase):
    def test_all_offers_of_drawn_stands(self):
        draws = Draws(364)
        none = 0
        for _ in range(100):
            web = drawn_web(draws)
            stand = drawn_stand(draws, web[0], draws.between(1, 3))
            kept = bool(plain_papers(web, stand))
            none += not kept
            for offer in plain_offers(stand):
                found = kept_answer(web, stand, offer)
                if not kept:
                    self.assertIs(found, None)
                    continue
                self.assertTrue(only_tuples(found))
                self.assertIn(found, plain_answers(web, stand, offer))
                self.assertTrue(plain_papers(web, after(stand, offer, found)))
        self.assertGreater(none, 15)

    def test_games_to_the_end(self):
        draws = Draws(365)
        for _ in range(40):
            web = draws.one_of((LARGEST, SIDES, complete(6), SEVEN, RING))
            stand = game_paper(web, (12,) * web[0])
            stand = tuple(power + 1 for power in stand)
            while any(stand):
                offer = tuple(at for at, number in enumerate(stand) if number and draws.below(3))
                if offer:
                    found = kept_answer(web, stand, offer)
                    self.assertIs(is_answer(web, stand, offer, found), True)
                    stand = after(stand, offer, found)
                    self.assertIs(is_game_paper(web, stand, game_paper(web, stand)), True)

    def test_edges(self):
        self.assertEqual(kept_answer(ONE, (1,), (0,)), (0,))
        self.assertEqual(kept_answer((2, ((0, 1),)), (1, 2), (0, 1)), (0,))
        self.assertIs(kept_answer((2, ((0, 1),)), (1, 1), (0, 1)), None)
        self.assertIs(kept_answer((2, ((0, 1),)), (1, 1), (0,)), None)
        self.assertIs(kept_answer(TWO_THREE, (2,) * 5, (0, 1)), None)
        self.assertIs(kept_answer(THREE, (2, 2, 2), (1,)), None)
        self.assertEqual(kept_answer((2, ((0, 1),)), (0, 1), (1,)), (1,))


if __name__ == "__main__":
    unittest.main()
