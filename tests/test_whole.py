"""Points [15], [20], [21], [23], [53] to [56] and [78] to [80] together: what chapters tell is good in others."""

import unittest

from draws import (FIELDS, Draws, divided_worth, multiplied, number_polynomial, only_tuples, paper_total, plain_choices,
                   plain_degree, plain_differences, plain_worth)
from listpicks.bundles import is_divided, tie_numbers
from listpicks.codes import is_code_table
from listpicks.conditionpolynomials import condition_polynomial
from listpicks.conditions import held
from listpicks.covers import cover_leaving, is_cover, least_cover
from listpicks.deciding import decided, is_decision
from listpicks.desk import Desk
from listpicks.dividedparts import divided_part
from listpicks.division import divided, least_form
from listpicks.enoughmarks import lot_condition
from listpicks.enoughties import enough_ties, lacking_bundle, tie_marks, tie_moduli
from listpicks.errors import Refused
from listpicks.fewpicks import least_picks
from listpicks.gamepapers import game_paper
from listpicks.games import house_wins
from listpicks.houses import House
from listpicks.joint import solved
from listpicks.leading import led, sure_choice
from listpicks.lists import picks
from listpicks.living import begun, is_life
from listpicks.lives import diary, lived
from listpicks.livingchanges import changed, is_change
from listpicks.lost import filled
from listpicks.mending import mended
from listpicks.picking import pick_count, some_pick
from listpicks.pieces import factor_along
from listpicks.planes import left_over, plane_polynomial
from listpicks.playing import coloured_at, colouring_by_game, played
from listpicks.polynomials import factor_of, is_polynomial
from listpicks.questions import is_question, question_text
from listpicks.reading import read_question
from listpicks.sheets import sheet, sheet_holds, wrong_sheets
from listpicks.surelists import is_sure, sure_powers
from listpicks.tables import form_of, table_of
from listpicks.touching import best_order
from listpicks.vanishing import paper_sum
from listpicks.webcolours import even_length, is_length_paper, length_paper
from listpicks.webs import colouring, is_colouring, web_polynomial
from listpicks.webways import outs
from listpicks.weights import top_factor, weighted_sum
from listpicks.zerolots import is_zero_lot, zero_lot
from plain_conditions import drawn_condition
from plain_lives import drawn_change, plain_picks
from plain_links import drawn_factors, drawn_order, tie_factors
from plain_texts import NAMES
from plain_webs import LARGEST, RING, SIDES, TWO_THREE, complete, drawn_web


class OneCoefficient(unittest.TestCase):
    def test_lists_told_afterwards_list_by_list(self):
        # [20], [21], [23]: where a term is sure, all lists of these lengths have a choice.
        draws = Draws(541)
        some = 0
        for _ in range(200):
            p, n = draws.one_of(FIELDS), draws.between(1, 3)
            f = draws.polynomial(p, n, draws.between(1, 5), 3)
            lengths = draws.lengths(p, n, 5)
            powers = sure_powers(f, lengths)
            if powers is None:
                continue
            some += 1
            self.assertIs(is_sure(f, lengths, powers), True)
            for _ in range(3):
                lists = draws.lists(p, lengths)
                choice = sure_choice(p, f, lists, powers)
                self.assertNotEqual(plain_worth(p, f, choice), 0)
                self.assertIs(is_decision(p, f, lists, ("pick", choice)), True)
                self.assertEqual(decided(p, f, lists)[0], "pick")
                self.assertIs(is_life((p, n, (f,), lists, ("pick", choice))), True)
                cut = tuple(row[:power + 1] for row, power in zip(lists, powers))
                self.assertEqual(top_factor(p, f, cut), factor_of(f, powers))
                self.assertEqual(weighted_sum(p, f, cut), factor_of(f, powers))
                shares = [divided_worth(p, plain_worth(p, f, one), plain_differences(p, cut, one))
                          for one in plain_choices(cut)]
                total = sum(shares)
                self.assertEqual(total % p if p else total, factor_of(f, powers))
                self.assertEqual(led(p, f, cut)[-1][1], plain_worth(p, f, choice))
        self.assertGreater(some, 40)

    def test_webs_told_one_colour_at_a_time(self):
        # [21], [50], [54], [56], [79]: a term of the web's polynomial, a way, and the game.
        draws = Draws(542)
        some = 0
        for _ in range(80):
            web = draws.one_of((drawn_web(draws), RING, TWO_THREE))
            lengths = tuple(draws.between(1, 3) for _ in range(web[0]))
            f = web_polynomial(0, web)
            powers = sure_powers(f, lengths)
            way = length_paper(web, lengths)
            self.assertIs(way is None, powers is None)
            self.assertIs(game_paper(web, lengths) is None, powers is None)
            if powers is None:
                continue
            some += 1
            self.assertIs(is_length_paper(web, lengths, way), True)
            self.assertIs(is_sure(f, lengths, outs(web, way)), True)
            self.assertNotEqual(factor_along(0, web[0], tie_factors(0, web[0], web[1]), powers,
                                             drawn_order(draws, web[0])), 0)
            self.assertIs(house_wins(web, lengths), True)
            lists = draws.lists(0, lengths)
            for choice in (sure_choice(0, f, lists, powers), colouring_by_game(web, lists), colouring(web, lists),
                           some_pick(0, tie_factors(0, web[0], web[1]), lists, tuple(range(web[0])))):
                self.assertIs(is_colouring(web, lists, choice), True)
            # The opponent offers the elements one after another: the colouring is what was answered.
            told = colouring_by_game(web, lists)
            offers, stand = [], lengths
            for one in sorted({one for row in lists for one in row}):
                offer = tuple(at for at, row in enumerate(lists) if one in row and stand[at])
                if offer:
                    offers.append((one, offer))
                    stand = played(web, lengths, [offer for _, offer in offers])[-1][1]
            self.assertEqual(tuple(offers[at][0] for at in coloured_at(web, lengths, [offer for _, offer in offers])),
                             told)
        self.assertGreater(some, 25)

    def test_all_lists_of_enough_length(self):
        draws = Draws(543)
        for web in (LARGEST, SIDES, complete(5)):
            length = even_length(web)
            for _ in range(4):
                lists = draws.lists(0, (length,) * web[0])
                self.assertIs(is_colouring(web, lists, colouring_by_game(web, lists)), True)
                factors = tie_factors(0, web[0], web[1])
                order = best_order(web[0], factors)
                self.assertGreater(pick_count(0, factors, lists, order), 0)
                self.assertIs(is_colouring(web, lists, some_pick(0, factors, lists, order)), True)


class BothSides(unittest.TestCase):
    def test_a_choice_or_a_paper_for_every_house(self):
        # [78]: just one of both, and the paper sums up by multiplying out alone.
        draws = Draws(544)
        seen = {"pick": 0, "paper": 0}
        for _ in range(150):
            p, n = draws.one_of((0, 2, 3, 5)), draws.between(1, 3)
            condition = drawn_condition(draws, n, draws.below(3), 1)
            question = (p, NAMES[:n], draws.lists(p, draws.lengths(p, n, 3)), condition)
            self.assertIs(is_question(question), True)
            try:
                house = House(question_text(question))
            except Refused:
                continue
            for _ in range(6):
                change = drawn_change(draws, house.life())
                if is_change(house.life(), change):
                    house.do(change)
                    if draws.below(4) == 0:
                        house.undo()
                life = house.life()
                _, _, conditions, lists, (word, evidence) = life
                good = plain_picks(p, conditions, lists)
                seen[word] += 1
                whole = multiplied(p, number_polynomial(p, n, 1), *conditions)
                if word == "pick":
                    self.assertIn(evidence, good)
                else:
                    self.assertEqual(good, [])
                    self.assertEqual(paper_total(p, lists, evidence), whole)
                    self.assertEqual(paper_sum(p, lists, evidence), whole)
                self.assertIs(sheet_holds(("decision", (p, whole, lists), house.answer())), True)
                self.assertEqual(decided(p, whole, lists)[0], word)
                self.assertEqual(begun(p, n, conditions, lists)[4][0], word)
        self.assertGreater(min(seen.values()), 60)

    def test_what_is_told_may_be_passed_on(self):
        draws = Draws(545)
        for _ in range(60):
            p, n = draws.one_of((2, 3, 5, 7)), draws.between(1, 3)
            lists = draws.lists(p, draws.lengths(p, n, 3))
            condition = drawn_condition(draws, n, draws.below(3), 1)
            try:
                f = condition_polynomial(p, lists, condition)
            except Refused:
                continue
            self.assertIs(is_polynomial(p, n, f), True)
            good = held(p, lists, condition)
            self.assertEqual(picks(p, f, lists), good)
            self.assertEqual(form_of(p, lists, table_of(p, f, lists)), least_form(p, f, lists))
            _, rest = divided(p, f, lists)
            self.assertEqual(picks(p, rest, lists), good)
            # At least as many choices as by the degree.
            if good:
                self.assertGreaterEqual(len(good), least_picks([len(row) for row in lists], plain_degree(rest)))
                for point in good[:2]:
                    self.assertIs(is_cover(p, lists, point, least_cover(p, lists, point)), True)
                    self.assertEqual(solved(p, (), f, lists)[0], "pick")
            d = plain_degree(rest)
            table = table_of(p, f, lists)
            self.assertIs(is_code_table(p, lists, max(d, 0), table), True)
            self.assertEqual(mended(p, lists, max(d, 0), table), rest)
            self.assertEqual(filled(p, lists, max(d, 0), table), table)
            life = begun(p, n, (f, rest), lists)
            self.assertEqual(life[4][0], "pick" if good else "paper")
            self.assertEqual(wrong_sheets([sheet("decision", (p, f, lists)), sheet("cover",
                                                                                   (p, lists,
                                                                                    plain_choices(lists)[0]))]), ())

    def test_planes_as_conditions(self):
        draws = Draws(546)
        for _ in range(40):
            p, n = draws.one_of((3, 5, 0)), draws.between(1, 3)
            lists = draws.lists(p, draws.lengths(p, n, 3))
            most = sum(len(row) - 1 for row in lists)
            planes = cover_leaving(p, lists, draws.below(most + 1))
            life = begun(p, n, (), lists)
            for plane in planes:
                life = changed(life, ("more", plane_polynomial(p, plane)))
            self.assertEqual(plain_picks(p, life[2], lists), list(left_over(p, lists, planes)))
            self.assertEqual(pick_count(p, life[2], lists, tuple(range(n))), len(left_over(p, lists, planes)))
            self.assertEqual(len(left_over(p, lists, planes)), least_picks([len(row) for row in lists], len(planes)))

    def test_ties_as_things_that_add_up_to_nothing(self):
        draws = Draws(547)
        for _ in range(40):
            web, q = drawn_web(draws, 4, 5), draws.one_of((2, 3, 4))
            if not web[1]:
                continue
            bundle = tuple(draws.below(3) for _ in web[1])
            moduli = tie_moduli(q, web)
            marks = tuple(mark for mark, many in zip(tie_marks(q, web), bundle) for _ in range(many))
            lot = zero_lot(moduli, marks)
            part = divided_part(q, web, bundle)
            self.assertIs(lot is None, part is None)
            if part is not None:
                self.assertIs(is_divided(q, web, bundle, part), True)
                self.assertTrue(all(many % q == 0 for many in tie_numbers(web, part)))
                self.assertIs(is_zero_lot(moduli, marks, lot), True)
            if 0 < len(marks) < 9:
                # The condition of the lots is 0 at all choices of 0 and 1 but the lots; without the first place of the
                # empty one there is a choice exactly if there is a divided part.
                f = lot_condition(moduli, marks)
                prime = 3 if q == 3 else 2
                good = pick_count(prime, (f,), ((0, 1),) * len(marks), tuple(range(len(marks))))
                self.assertIs(good > 1, part is not None)
            self.assertEqual(enough_ties(q, web), sum(lacking_bundle(q, web)) + 1)


class AllOfIt(unittest.TestCase):
    def test_a_house_and_a_desk_say_the_same(self):
        # [80]: whatever is done, the answer is right, and what was undone leaves nothing.
        draws = Draws(548)
        for _ in range(25):
            p = draws.one_of((0, 3, 7))
            lists = draws.lists(p, (2, 2, 2))
            question = (p, ("u", "v", "w"), lists, ("all", (("unlike", (("of", 0), ("of", 1))),
                                                            ("unlike", (("of", 1), ("of", 2))))))
            text = question_text(question)
            self.assertEqual(read_question(text), question)
            desk, house = Desk(), House(text)
            desk.load(text)
            changes = []
            for _ in range(10):
                word, at, one = draws.one_of(("strike", "add")), draws.below(3), draws.element(p, 4)
                if is_change(house.life(), (word, at, one)):
                    house.do((word, at, one))
                    changes.append((word, at, one))
                    self.assertEqual(desk.say("{} {} {}".format(word, "uvw"[at], one)), "ok")
                if draws.below(4) == 0 and house.undo():
                    changes.pop()
                    self.assertEqual(desk.say("undo"), "ok")
                self.assertEqual(desk.house.life(), house.life())
                rows = house.life()[3]
                good = [choice for choice in plain_choices(rows) if choice[0] != choice[1] != choice[2]]
                told = desk.say("pick")
                self.assertIs(told == "none", not good)
                if good:
                    words = told.split(" ")
                    self.assertEqual(words[::2], ["u", "v", "w"])
                    self.assertIn(tuple(map(int, words[1::2])), good)
            first = begun(*House(text).life()[:4])
            self.assertEqual(lived(first, changes), house.life())
            self.assertEqual([word for word, _ in diary(first, changes)][-1:], [house.answer()[0]] if changes else [])

    def test_many_factors_as_conditions(self):
        draws = Draws(549)
        for _ in range(60):
            p, n = draws.one_of(FIELDS), draws.between(1, 3)
            lists = draws.lists(p, draws.lengths(p, n, 3))
            factors = drawn_factors(draws, p, n, 4, 1)
            life = begun(p, n, factors, lists)
            found = some_pick(p, factors, lists, best_order(n, factors))
            self.assertIs(found is None, life[4][0] == "paper")
            if found is not None:
                self.assertIs(is_life(life[:4] + (("pick", found),)), True)

    def test_sheets_of_all_kinds_are_looked_at_without_finding_them_again(self):
        draws = Draws(550)
        found = []
        for _ in range(20):
            p, n = draws.one_of((2, 3, 5)), draws.between(1, 3)
            lists = draws.lists(p, draws.lengths(p, n, 3))
            f, g = draws.polynomial(p, n, 3, 2), draws.polynomial(p, n, 2, 2)
            web = drawn_web(draws)
            lengths = tuple(len(row) for row in lists)
            for name, question in (("decision", (p, f, lists)), ("joint", (p, (f, g), f, lists)),
                                   ("sure", (p, f, lengths)), ("cover", (p, lists, plain_choices(lists)[-1])),
                                   ("way", (web, (1,) * web[0])), ("lengths", (web, (2,) * web[0])),
                                   ("game", (web, (2,) * web[0]))):
                try:
                    found.append(sheet(name, question))
                except Refused as error:
                    self.assertEqual(error.at, 2)
        self.assertEqual(len({name for name, _, _ in found}), 7)
        self.assertTrue(only_tuples(tuple(found)))
        self.assertEqual(wrong_sheets(found), ())
        # Answers to other questions do not hold, but by chance.
        spoilt = [(one[0], one[1], other[2]) for one, other in zip(found, found[7:]) if one[0] != other[0]]
        self.assertGreater(len(wrong_sheets(spoilt)), len(spoilt) // 2)


if __name__ == "__main__":
    unittest.main()
