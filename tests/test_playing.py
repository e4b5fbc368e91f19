"""Points [55] and [56], and [53] and [54] with them: the game played to its end, and lists coloured by it."""

import unittest

from asking import assert_raised
from draws import ODD_VALUES, Draws, all_below, only_tuples
from listpicks.errors import InvalidQuestion
from listpicks.gamepapers import game_paper, is_game_paper, kept_answer
from listpicks.games import after, house_wins, is_answer, losing_offer
from listpicks.playing import coloured_at, colouring_by_game, played
from listpicks.webcolours import length_paper
from listpicks.webs import colouring, is_colouring
from plain_games import plain_answers, plain_offers
from plain_webs import BARE, LARGEST, ONE, PATH, RING, SEVEN, SIDES, THREE, TWO_THREE, complete, drawn_web, plain_papers
from refusing import assert_refused

TWO = (2, ((0, 1),))


def drawn_offers(draws, web, stand, stop):
    """Offers until all places are done, or until a draw stops; no stand in between is asked for its paper."""
    offers = []
    while any(stand) and draws.below(stop):
        offer = tuple(at for at, number in enumerate(stand) if number and draws.below(3))
        if offer:
            stand = after(stand, offer, kept_answer(web, stand, offer))
            offers.append(offer)
    return offers, stand


def paper_stand(draws, web):
    """A stand just large enough for some paper, or a bit larger."""
    powers = game_paper(web, (12,) * web[0])
    return tuple(power + 1 + (draws.below(4) == 0) for power in powers)


class Played(unittest.TestCase):
    def check(self, web, stand, offers):
        found = played(web, stand, offers)
        self.assertTrue(only_tuples(found))
        self.assertEqual(len(found), len(offers))
        left = stand
        times = {}
        for at, (offer, (answer, behind)) in enumerate(zip(offers, found)):
            self.assertIs(is_answer(web, left, offer, answer), True)
            self.assertEqual(answer, kept_answer(web, left, offer))
            self.assertEqual(behind, after(left, offer, answer))
            self.assertIs(is_game_paper(web, behind, game_paper(web, behind)), True)
            times.update({place: at for place in answer})
            left = behind
        told = coloured_at(web, stand, offers)
        self.assertIs(type(told), tuple)
        self.assertEqual(told, tuple(times.get(place) for place in range(web[0])))
        for u, v in web[1]:
            self.assertTrue(told[u] is None or told[u] != told[v])
        self.assertLessEqual(len(offers), sum(stand))
        return left

    def test_drawn_games(self):
        draws = Draws(371)
        ended = 0
        for _ in range(120):
            web = draws.one_of((drawn_web(draws), LARGEST, SIDES, complete(6), SEVEN, RING))
            stand = paper_stand(draws, web)
            offers, behind = drawn_offers(draws, web, stand, draws.one_of((3, 1000)))
            self.assertEqual(self.check(web, stand, offers), behind)
            self.check(web, stand, tuple(offers))
            if not any(behind):
                ended += 1
                self.assertNotIn(None, coloured_at(web, stand, offers))
        self.assertGreater(ended, 40)

    def test_some_places_are_done_at_first(self):
        draws = Draws(372)
        some = 0
        for _ in range(150):
            web = drawn_web(draws)
            stand = tuple(draws.between(0, 3) for _ in range(web[0]))
            if game_paper(web, stand) is not None:
                some += 1
                offers, _ = drawn_offers(draws, web, stand, 1000)
                self.check(web, stand, offers)
                told = coloured_at(web, stand, offers)
                self.assertEqual([one is None for one in told], [number == 0 for number in stand])
        self.assertGreater(some, 40)

    def test_edges(self):
        self.assertEqual((played(RING, (2,) * 4, []), played(RING, (2,) * 4, ())), ((), ()))
        self.assertEqual(coloured_at(RING, (2,) * 4, []), (None,) * 4)
        self.assertEqual((played(ONE, (0,), []), coloured_at(ONE, (0,), ())), ((), (None,)))
        self.assertEqual(played(ONE, (1,), [(0,)]), (((0,), (0,)),))
        self.assertEqual(played(TWO, (1, 2), [(0, 1), (1,)]), (((0,), (0, 1)), ((1,), (0, 0))))
        self.assertEqual(coloured_at(TWO, (1, 2), [(0, 1), (1,)]), (0, 1))
        self.assertEqual(coloured_at(TWO, (1, 2), ((0, 1),)), (0, None))
        self.assertEqual(coloured_at(BARE, (1, 0, 1), [(2,), (0,)]), (1, None, 0))

    def test_without_a_paper_nothing_else_is_looked_at(self):
        for web, stand in ((THREE, (2, 2, 2)), (TWO, (1, 1)), (TWO_THREE, (2,) * 5), (SEVEN, (2,) * 7),
                           (PATH, (1, 2, 1))):
            for offers in ([], (), [(0,)], [None], [()], [(9,)], [(0,), 7]):
                assert_refused(self, 0, lambda: played(web, stand, offers), lambda: coloured_at(web, stand, offers))

    def test_wrong_offers(self):
        for wrong in [value for value in ODD_VALUES if value != (1, 2, 3)] + [(), [0], (1, 0), (4,), (-1,), (0, 0),
                                                                              (True,), (0, True), (0.0,), ("0",), "0"]:
            for offers, at in (([wrong], 0), ((wrong, (0,)), 0), ([(0, 2), wrong], 1),
                               ([(1,), (0, 2, 3), wrong, None], 2)):
                assert_raised(self, InvalidQuestion, at, lambda: played(RING, (3, 3, 3, 3), offers),
                              lambda: coloured_at(RING, (3, 3, 3, 3), offers))

    def test_no_sequences(self):
        for value in ODD_VALUES:
            if not isinstance(value, (list, tuple)):
                assert_raised(self, InvalidQuestion, 0, lambda: played(RING, (3, 3, 3, 3), value))
                assert_refused(self, 0, lambda: played(THREE, (2, 2, 2), value))

    def test_offers_of_places_that_are_done_by_then(self):
        assert_raised(self, InvalidQuestion, 1, lambda: played(TWO, (1, 2), [(0, 1), (0, 1)]),
                      lambda: coloured_at(TWO, (1, 2), [(0, 1), (0, 1), (1,)]))
        assert_raised(self, InvalidQuestion, 0, lambda: played(TWO, (0, 2), [(0, 1)]))
        assert_raised(self, InvalidQuestion, 1, lambda: played(ONE, (1,), [(0,), (0,)]))
        assert_raised(self, InvalidQuestion, 2, lambda: coloured_at(TWO, (1, 2), [(0, 1), (1,), (1,)]))

    def test_an_answer_is_never_lacking(self):
        # [79]: whoever has a paper at the beginning can answer all that may be offered.
        for web in (THREE, PATH, RING, TWO_THREE):
            known = {}
            for stand in all_below((4,) * web[0] if web[0] < 4 else (3,) * web[0]):
                if plain_papers(web, stand):
                    for offer in plain_offers(stand):
                        (answer, behind), = played(web, stand, [offer])
                        self.assertIn(answer, plain_answers(web, stand, offer))
                        known[behind] = known.get(behind) or bool(plain_papers(web, behind))
                        self.assertTrue(known[behind])


class ByTheGame(unittest.TestCase):
    def plainly(self, web, lists):
        """As [56] tells it, word by word."""
        stand = tuple(len(row) for row in lists)
        if not plain_papers(web, stand):
            return None
        choice = [None] * web[0]
        for one in range(-30, 31):
            offer = tuple(at for at, row in enumerate(lists) if one in row and choice[at] is None)
            if offer:
                answer = kept_answer(web, stand, offer)
                for at in answer:
                    choice[at] = one
                stand = after(stand, offer, answer)
        return tuple(choice)

    def test_drawn_lists(self):
        draws = Draws(373)
        seen = {True: 0, False: 0}
        for _ in range(200):
            web = drawn_web(draws)
            lists = draws.lists(draws.one_of((3, 5, 0)), [draws.between(1, 3) for _ in range(web[0])])
            wanted = self.plainly(web, lists)
            found = colouring_by_game(web, lists)
            self.assertEqual(found, wanted)
            seen[found is None] += 1
            if found is not None:
                self.assertTrue(only_tuples(found))
                self.assertIs(is_colouring(web, lists, found), True)
        self.assertGreater(min(seen.values()), 40)

    def test_large_webs(self):
        draws = Draws(374)
        for _ in range(40):
            web = draws.one_of((LARGEST, SIDES, complete(6)))
            lengths = paper_stand(draws, web)
            lists = tuple(draws.row(13, length) for length in lengths)
            self.assertIs(is_colouring(web, lists, colouring_by_game(web, lists)), True)

    def test_lengths_with_a_paper_win(self):
        draws = Draws(375)
        some = 0
        for _ in range(100):
            web = drawn_web(draws, 5, 8)
            lengths = tuple(draws.between(1, 3) for _ in range(web[0]))
            lists = draws.lists(5, lengths)
            if length_paper(web, lengths) is not None:
                some += 1
                self.assertIs(house_wins(web, lengths), True)
                self.assertIs(is_colouring(web, lists, colouring_by_game(web, lists)), True)
            elif house_wins(web, lengths):
                self.assertIsNot(colouring(web, lists), None)
                self.assertIs(colouring_by_game(web, lists), None)
        self.assertGreater(some, 30)

    def test_edges(self):
        self.assertIs(colouring_by_game(TWO, ((5,), (5,))), None)
        self.assertIs(colouring_by_game(TWO, ((5,), (6,))), None)
        self.assertEqual(colouring_by_game(TWO, ((5,), (5, 6))), (5, 6))
        self.assertEqual(colouring_by_game(TWO, ((5,), (-4, 5))), (5, -4))
        self.assertEqual(colouring_by_game(ONE, ((7,),)), (7,))
        self.assertEqual(colouring_by_game(ONE, ((-10 ** 29, 3),)), (-10 ** 29,))
        self.assertEqual(colouring_by_game(BARE, ((1,), (2, 3), (1,))), (1, 2, 1))
        self.assertIsNot(colouring_by_game(RING, ((1, 2), (1, 3), (1, 2), (2, 3))), None)

    def test_webs_of_the_document(self):
        self.assertIs(house_wins(TWO_THREE, (2,) * 5), True)
        self.assertIs(colouring_by_game(TWO_THREE, ((1, 2),) * 5), None)
        self.assertIsNot(colouring(TWO_THREE, ((1, 2),) * 5), None)
        pairs = [(a, b) for a in range(5) for b in range(a + 1, 5)]
        draws = Draws(376)
        for _ in range(100):
            lists = tuple(draws.one_of(pairs) for _ in range(7))
            self.assertIsNot(colouring(SEVEN, lists), None)
            self.assertIs(colouring_by_game(SEVEN, lists), None)
        self.assertIs(house_wins(SEVEN, (2,) * 7), False)
        for answer in plain_answers(SEVEN, (2,) * 7, (4, 5)):
            self.assertIsNot(losing_offer(SEVEN, after((2,) * 7, (4, 5), answer)), None)


if __name__ == "__main__":
    unittest.main()
