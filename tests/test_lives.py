"""Points [70] and [71]: lives led through many changes."""

import unittest

from asking import assert_raised
from draws import ODD_VALUES, Draws, only_tuples
from listpicks.errors import InvalidQuestion
from listpicks.lives import diary, lived
from listpicks.living import begun, is_life
from listpicks.livingchanges import carried, changed, is_change
from plain_lives import drawn_change, plain_picks, plainly_changed, plainly_possible
from test_livingchanges import DEAD, F, LIFE, drawn_life


class Lived(unittest.TestCase):
    def test_drawn_lives(self):
        draws = Draws(501)
        words = {}
        for _ in range(120):
            life = drawn_life(draws)
            left, changes, wanted = life, [], []
            for _ in range(draws.below(9)):
                change = drawn_change(draws, left)
                if not plainly_possible(left, change):
                    continue
                kept = carried(left, change) is not None
                conditions, lists = plainly_changed(left, change)
                left = changed(left, change)
                self.assertEqual(left[2:4], (conditions, lists))
                word = "pick" if plain_picks(life[0], conditions, lists) else "paper"
                changes.append(change)
                wanted.append((word, kept))
                words[(word, kept)] = words.get((word, kept), 0) + 1
            for rows in (changes, tuple(changes)):
                found = lived(life, rows)
                self.assertEqual(found, left)
                self.assertIs(is_life(found), True)
                told = diary(life, rows)
                self.assertEqual(told, tuple(wanted))
                self.assertTrue(only_tuples(found))
                self.assertIs(type(told), tuple)
                self.assertTrue(all(type(pair) is tuple and type(pair[1]) is bool for pair in told))
            # Led on elsewhere, from half of the way.
            half = len(changes) // 2
            self.assertEqual(lived(lived(life, changes[:half]), changes[half:]), found)
            self.assertEqual(diary(life, changes[:half]) + diary(lived(life, changes[:half]), changes[half:]), told)
        self.assertEqual(len(words), 4)

    def test_words_hang_on_conditions_and_lists_alone(self):
        other = LIFE[:4] + (("pick", (2, 1)),)
        longer = begun(5, 2, (F,), ((0, 1, 2), (1,)))
        for life in (longer, longer[:4] + (("pick", (0, 1)),), longer[:4] + (("pick", (2, 1)),)):
            changes = [("strike", 0, 0), ("strike", 0, 2), ("less", 0), ("more", F), ("add", 0, 3)]
            self.assertEqual([word for word, _ in diary(life, changes)], ["pick", "paper", "pick", "paper", "pick"])
        self.assertEqual(diary(longer[:4] + (("pick", (0, 1)),), [("strike", 0, 0)]), (("pick", False),))
        self.assertEqual(diary(longer[:4] + (("pick", (2, 1)),), [("strike", 0, 0)]), (("pick", True),))
        self.assertEqual(diary(other, []), ())

    def test_no_changes(self):
        for life in (LIFE, DEAD):
            self.assertEqual((lived(life, []), lived(life, ()), diary(life, []), diary(life, ())), (life, life, (), ()))

    def test_changes_that_cannot_be_made(self):
        good = [("strike", 0, 2), ("more", F), ("add", 1, 3)]
        self.assertEqual(lived(LIFE, good)[3:], (((1,), (1, 3)), ("pick", (1, 3))))
        self.assertEqual(diary(LIFE, good), (("paper", False), ("paper", True), ("pick", False)))
        for wrong in [value for value in ODD_VALUES if not is_change(LIFE, value)] + [("strike", 1, 1), ("less", 9),
                                                                                      ("add", 0, 1)]:
            for at in range(4):
                spoilt = good[:at] + [wrong] + good[at:]
                if at == 3 and wrong == ("strike", 1, 1):
                    continue
                assert_raised(self, InvalidQuestion, at, lambda: lived(LIFE, spoilt),
                              lambda: lived(LIFE, tuple(spoilt) + (None,)))
        # What could be made at first can't be made twice.
        assert_raised(self, InvalidQuestion, 1, lambda: lived(LIFE, [("strike", 0, 2), ("strike", 0, 2)]),
                      lambda: lived(LIFE, [("less", 0), ("less", 0)]), lambda: lived(LIFE,
                                                                                     [("add", 0, 3), ("add", 0, 3)]))

    def test_no_sequences(self):
        for value in ODD_VALUES:
            if not isinstance(value, (list, tuple)):
                assert_raised(self, InvalidQuestion, 0, lambda: lived(LIFE, value))


if __name__ == "__main__":
    unittest.main()
