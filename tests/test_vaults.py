"""[9.1] and [9.2]: vaults."""

import random
import unittest

from tellsless.blurring import blurred
from tellsless.deciding import can_stand, decided
from tellsless.errors import NoBudget, NoItem, NoMenu, NoNumber, NoPath, NotRefused, TooLarge
from tellsless.houses import House, begun, made_house, node_at, paths
from tellsless.looks import gathered
from tellsless.plans import is_between
from tellsless.prices import is_against
from tellsless.rooms import beside
from tellsless.vaults import Vault
from tests.things import (
    CLEAR, COIN, HALF, NOUGHT, ONE, chance, even, full_house, made_up_house, made_up_look, nested, pair, strange, teller,
)

NOTHING = House(2, ())
LATE = House(2, ((((), (ONE, ONE), CLEAR.tree),),))
SILENT = House(2, (even(2, worlds=2),))


def product_of(first, second):
    return tuple(pair(chance(one) * chance(two)) for one, two in zip(first, second))


def node_with(menu, rounds, lets, path, ahead):
    """The node behind a path if just the pairs (path, item) of lets are let."""
    if len(path) == rounds:
        return ()
    node = []
    for item, look in enumerate(menu):
        if (path, item) in lets:
            node.append(tuple(
                ((1,) + word, product_of(weights, ahead),
                 node_with(menu, rounds, lets, path + ((item, number),), product_of(weights, ahead)))
                for number, (word, weights, _) in enumerate(look.tree[0])
            ))
        else:
            node.append((((0,), ahead, node_with(menu, rounds, lets, path + ((item, 0),), ahead)),))
    return tuple(node)


def house_with(menu, rounds, lets):
    worlds = menu[0].worlds
    return made_house(worlds, node_with(menu, rounds, lets, (), (ONE,) * worlds))


def settled(menu, budget, rounds):
    """What is let, settled as [9.1] tells it: the nodes by how many answers are ahead, then by their paths."""
    lets = set()
    for length in range(rounds):
        for path in sorted(path for path in paths(house_with(menu, rounds, lets)) if len(path) == length):
            for item in range(len(menu)):
                if can_stand(budget, house_with(menu, rounds, lets | {(path, item)})):
                    lets.add((path, item))
    return lets


class Made(unittest.TestCase):
    def test_menus_come_first(self):
        wrong = [
            (), (COIN,) * 4, [COIN], COIN, (COIN, None), (None,), (NOTHING,), (COIN, NOTHING), (LATE,), (COIN, LATE),
            (House(2, COIN.tree * 2),), (COIN, teller(3)), (teller(3), COIN), (COIN, COIN, House(1, (even(1),))), (COIN.tree,),
            (begun(COIN),), (COIN, [COIN]), nested(120), (COIN, nested(119)), ((COIN,),),
        ]
        rest = strange() + [(thing,) for thing in strange()]
        for menu in wrong + [thing for thing in rest if thing != (COIN,)]:
            for budget, rounds in ((COIN, 1), (None, None), (COIN, 9)):
                with self.assertRaises(NoMenu):
                    Vault(menu, budget, rounds)

    def test_then_budgets(self):
        for budget in [thing for thing in strange() if thing != COIN] + [(COIN,), COIN.tree, teller(3), House(1, ()), nested(120)]:
            for rounds in (1, 0, None):
                with self.assertRaises(NoBudget):
                    Vault((COIN,), budget, rounds)

    def test_then_rounds(self):
        many = (made_house(2, (even(2000, worlds=2),)),)
        for rounds in strange() + [0, 4, -1, 10 ** 29, True, "1", (1,), nested(120)]:
            with self.assertRaises(NoNumber):
                Vault((COIN,), COIN, rounds)
            with self.assertRaises(NoNumber):
                Vault(many, COIN, rounds)

    def test_then_too_large(self):
        def wide(*rows):
            return tuple(made_house(1, (even(many),)) for many in rows)
        budget = House(1, ())
        # So many answers in all: n, n + n * n, n + n * n + n * n * n.
        for menu, rounds, is_right in (
            ((400,), 1, True), ((401,), 1, False), ((200, 100, 100), 1, True), ((200, 100, 101), 1, False),
            ((19,), 2, True), ((20,), 2, False), ((7, 6, 6), 2, True), ((7, 6, 7), 2, False),
            ((7,), 3, True), ((8,), 3, False), ((2, 2, 3), 3, True), ((3, 2, 3), 3, False), ((3000,), 3, False),
        ):
            if is_right:
                many = len(paths(Vault(wide(*menu), budget, rounds).house())) - 1
                # Of one world all is let.
                self.assertEqual(many, sum(sum(menu) ** (number + 1) for number in range(rounds)))
            else:
                with self.assertRaises(TooLarge):
                    Vault(wide(*menu), budget, rounds)

    def test_too_large_counts_what_would_be_let(self):
        menu = (made_house(2, (even(20, worlds=2),)),)
        with self.assertRaises(TooLarge):
            Vault(menu, NOTHING, 2)

    def test_attributes_and_equality(self):
        menu = (COIN, CLEAR)
        vault = Vault(menu, COIN, 2)
        self.assertEqual((vault.menu, vault.budget, vault.rounds), (menu, COIN, 2))
        self.assertTrue(vault == Vault((House(2, COIN.tree), CLEAR), House(2, COIN.tree), 2))
        self.assertFalse(vault != Vault(menu, COIN, 2))
        for other in (Vault((COIN,), COIN, 2), Vault((CLEAR, COIN), COIN, 2), Vault(menu, CLEAR, 2), Vault(menu, COIN, 1)):
            self.assertFalse(vault == other)
            self.assertTrue(vault != other)
        # Equal in what they let, but not in their parts.
        self.assertEqual(Vault((SILENT,), NOTHING, 1).house(), Vault((SILENT,), COIN, 1).house())
        self.assertNotEqual(Vault((SILENT,), NOTHING, 1), Vault((SILENT,), COIN, 1))

    def test_equal_to_nothing_of_another_kind(self):
        vault = Vault((COIN,), COIN, 1)
        for thing in strange() + [(COIN,), ((COIN,), COIN, 1), vault.house(), Vault]:
            self.assertFalse(vault == thing)
            self.assertFalse(thing == vault)
            self.assertTrue(vault != thing)


class Lets(unittest.TestCase):
    def check(self, menu, budget, rounds):
        vault = Vault(menu, budget, rounds)
        lets = settled(menu, budget, rounds)
        self.assertEqual(vault.house(), house_with(menu, rounds, lets))
        for path in paths(vault.house()):
            for item in range(len(menu)):
                if len(path) < rounds:
                    self.assertIs(vault.lets(path, item), (path, item) in lets)
        self.ninth_fact(vault, lets)
        return vault

    def ninth_fact(self, vault, lets):
        house = vault.house()
        self.assertIs(can_stand(vault.budget, house), True)
        self.assertTrue(is_between(vault.budget, house, decided(vault.budget, house)[1]))
        for path in paths(house):
            for item in range(len(vault.menu)):
                if len(path) == vault.rounds:
                    continue
                if (path, item) in lets:
                    for function in (vault.wider, vault.refusal):
                        with self.assertRaises(NotRefused):
                            function(path, item)
                    continue
                kept = {place for place in lets if place[0][:len(path) + 1] != path + ((item, 0),)}
                wider = vault.wider(path, item)
                self.assertEqual(wider, house_with(vault.menu, vault.rounds, kept | {(path, item)}))
                self.assertIs(can_stand(vault.budget, wider), False)
                paper = vault.refusal(path, item)
                self.assertIs(type(paper), tuple)
                self.assertEqual(len(paper), 2)
                self.assertIs(is_against(vault.budget, wider, paper), True)

    def test_e09(self):
        vault = self.check((COIN,), COIN, 2)
        self.assertIs(vault.lets((), 0), True)
        self.assertIs(vault.lets(((0, 0),), 0), False)
        self.assertEqual(vault.house(), House(2, ((
            ((1, 0), ((3, 4), (1, 4)), ((((0,), ((3, 4), (1, 4)), ()),),)),
            ((1, 1), ((1, 4), (3, 4)), ((((0,), ((1, 4), (3, 4)), ()),),)),
        ),)))

    def test_all_and_nothing_is_let(self):
        for rounds in (1, 2, 3):
            vault = self.check((COIN,), CLEAR, rounds)
            self.assertTrue(all(vault.lets(path, 0) for path in paths(vault.house()) if len(path) < rounds))
            vault = self.check((COIN,), NOTHING, rounds)
            self.assertEqual(len(paths(vault.house())), rounds + 1)
            self.assertEqual(vault.house().tree[0][0][:2], ((0,), (ONE, ONE)))
            # What tells nothing is always let.
            vault = self.check((SILENT, COIN), NOTHING, min(rounds, 2))
            self.assertIs(vault.lets((), 0), True)
            self.assertIs(vault.lets((), 1), False)
            self.assertIs(vault.lets(((1, 0),), 0) if rounds > 1 else True, True)

    def test_one_look_or_another_one(self):
        vault = self.check((COIN, CLEAR), COIN, 2)
        self.assertEqual([vault.lets((), item) for item in range(2)], [True, False])
        # Behind a refusal one may still ask.
        self.assertEqual([vault.lets(((1, 0),), item) for item in range(2)], [True, False])
        self.assertEqual([vault.lets(((0, 0),), item) for item in range(2)], [False, False])
        two = self.check((COIN,), beside(COIN, COIN), 3)
        self.assertEqual([two.lets(path, 0) for path in ((), ((0, 0),), ((0, 0), (0, 1)))], [True, True, False])

    def test_hopeless_answers(self):
        never = House(2, ((
            ((0,), ((3, 4), (1, 4)), ()), ((1,), (NOUGHT, NOUGHT), ()), ((2,), ((1, 4), (3, 4)), ()),
        ),))
        vault = self.check((never,), COIN, 2)
        # Behind an answer that never comes all may be let.
        self.assertEqual([vault.lets(((0, answer),), 0) for answer in range(3)], [False, True, False])
        self.check((CLEAR, COIN), CLEAR, 2)

    def test_rounds_of_the_budget(self):
        # The budget tells the world if it is asked twice.
        first = House(2, ((((0,), (HALF, HALF), ()), ((1,), (HALF, HALF), ())),))
        both = House(2, ((
            ((0,), (HALF, HALF), ((((0,), (HALF, NOUGHT), ()), ((1,), (NOUGHT, HALF), ())),)),
            ((1,), (HALF, HALF), ()),
        ),))
        self.check((COIN, first), both, 2)
        self.check((COIN,), both, 3)

    def test_made_up_ones(self):
        done = 0
        for seed in range(140):
            dice = random.Random(seed)
            worlds = dice.randrange(1, 4)
            menu = tuple(made_up_look(dice, worlds, 3, seed % 12 == 0) for _ in range(dice.randrange(1, 4)))
            budget = made_up_house(dice, worlds, 2, 2, 3)
            rounds = dice.randrange(1, 3)
            many = sum(len(look.tree[0]) for look in menu)
            if many ** rounds < 30:
                self.check(menu, budget, rounds)
                done += 1
            if seed % 10 == 0:
                self.check(menu[:1], menu[0], 2)
        self.assertGreater(done, 60)

    def test_three_rounds(self):
        for seed in range(6):
            dice = random.Random(seed)
            look, other = full_house(dice, 2, 1, 1, 2), full_house(dice, 2, 1, 1, 2)
            self.check((look,), beside(look, look), 3)
            self.check((look,), other, 3)
            self.check((look, other), other, 2)

    def test_a_large_one(self):
        looks = (COIN, House(2, ((((0,), (HALF, (1, 3)), ()), ((1,), ((1, 4), (1, 3)), ()), ((2,), ((1, 4), (1, 3)), ())),)))
        vault = Vault(looks, CLEAR, 3)
        self.assertEqual(len(paths(vault.house())) - 1, 5 + 25 + 125)
        self.assertIs(can_stand(CLEAR, vault.house()), True)

    def test_houses_that_functions_made(self):
        menu = (gathered(COIN), blurred(COIN, {(0,): ((ONE, (1,) * 8),), (1,): ((ONE, (2,) * 8),)}))
        vault = self.check(menu, begun(COIN), 2)
        self.assertEqual(vault.house().tree[1][0][0], (1,) + (1,) * 8 + (0,))

    def test_houses_are_told_anew(self):
        vault = Vault((COIN,), COIN, 2)
        self.assertEqual(vault.house(), vault.house())
        self.assertEqual(vault.wider(((0, 0),), 0), vault.wider(((0, 0),), 0))
        self.assertEqual(vault.refusal(((0, 0),), 0), Vault((COIN,), COIN, 2).refusal(((0, 0),), 0))
        vault.refusal(((0, 0),), 0)[1].clear()
        self.assertIs(is_against(COIN, vault.wider(((0, 0),), 0), vault.refusal(((0, 0),), 0)), True)


class Errors(unittest.TestCase):
    def setUp(self):
        self.vault = Vault((COIN, CLEAR), COIN, 2)
        self.functions = (self.vault.lets, self.vault.wider, self.vault.refusal)

    def test_paths_come_first(self):
        wrong = [
            ((0, 0), (0, 0)), ((1, 0), (1, 0)), ((0, 2),), ((1, 1),), ((2, 0),), ((0, -1),), [(0, 0)], ([0, 0],), ((0, 0, 0),),
            ((0,),), (0, 0), ((False, 0),), ((0, False),), ((0, 0), (0, 0), (0, 0)), nested(120), ((0, 0), nested(118)),
        ]
        for path in wrong + strange():
            for item in (0, 1, 2, None, nested(120)):
                for function in self.functions:
                    with self.assertRaises(NoPath):
                        function(path, item)
        # A path of all rounds is one of the house, but behind it nothing is asked.
        self.assertEqual(node_at(self.vault.house(), ((0, 0), (0, 0))), ())

    def test_then_items(self):
        for path in ((), ((0, 0),), ((0, 1),), ((1, 0),)):
            for item in [2, -1, 10 ** 29, True, False, None, "0", (0,), [0], nested(120)] + strange():
                for function in self.functions:
                    with self.assertRaises(NoItem):
                        function(path, item)

    def test_then_not_refused(self):
        for function in self.functions[1:]:
            with self.assertRaises(NotRefused):
                function((), 0)
            with self.assertRaises(NotRefused):
                function(((1, 0),), 0)
            function((), 1)
            function(((0, 0),), 0)


if __name__ == "__main__":
    unittest.main()
