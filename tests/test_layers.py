"""Points 20 and 21, and what point 2 says of them."""

import itertools
import random
import unittest

from asking import FAR, Asking
from plain import room_of, stands_right
from plain_plans import all_next, all_reached, all_truths, bounded_mills, layer_of, size_of, tidal_mills
from planning import BARE, DRAINING, FAR_TURN, FILLING, LARGE, OPEN, POND, SEA, SHUT, TIDES
from tidepond.layers import layers, next_layer


def pairs_of(mill):
    contents = itertools.product(*[range(room_of(mill, pond) + 1) for pond in range(len(mill[1]))])
    return list(itertools.product(contents, all_truths(len(mill[2]))))


def random_layer(draw, mill):
    # Few unlike grounds and moves, so that many states come to one pair with as much.
    pairs = pairs_of(mill)
    chosen = sorted(draw.sample(pairs, draw.randint(1, min(30, len(pairs)))))
    return [(*pair, draw.choice((0, 1, 2, 5, 9)), draw.choice((0, 1, 2, 7))) for pair in chosen]


class Layering(Asking):
    def follows(self, told, mill, turn, layer):
        self.tells(told, next_layer, mill, turn, layer)
        self.assertEqual(layer_of(all_next(mill, turn, layer)), told)


class TestNextLayer(Layering):
    def test_neither_gates_nor_wheels(self):
        for content in range(4):
            self.follows([((content,), (), 0, 0)], BARE, 0, [((content,), (), 0, 0)])
        layer = [((0,), (), 5, 2), ((1,), (), 0, 9), ((3,), (), 8, 0)]
        self.follows(layer, BARE, 7, layer)

    def test_gates_and_no_wheels(self):
        shut = ((0,), SHUT, 0, 0)
        self.follows([shut, ((1,), OPEN, 0, 1)], FILLING, 0, [shut])
        self.follows([((0,), SHUT, 0, 1), ((1,), OPEN, 0, 0)], FILLING, 0, [((0,), OPEN, 0, 0)])
        # As high as the sea, nothing passes, and yet the gate may be moved.
        self.follows([((2,), SHUT, 4, 3), ((2,), OPEN, 4, 4)], FILLING, 0, [((2,), SHUT, 4, 3)])
        self.follows([((2,), OPEN, 4, 4), ((3,), SHUT, 4, 3)], FILLING, 0, [((3,), SHUT, 4, 3)])

    def test_wheels_and_no_gates(self):
        self.follows([((1,), (), 7, 0), ((2,), (), 0, 0)], DRAINING, 0, [((2,), (), 0, 0)])
        self.follows([((0,), (), 0, 0)], DRAINING, 0, [((0,), (), 0, 0)])
        self.follows([((2,), (), 17, 4), ((3,), (), 10, 4)], DRAINING, 0, [((3,), (), 10, 4)])

    def test_gates_and_wheels(self):
        low = [((1,), SHUT, 0, 0)]
        self.follows([((1,), SHUT, 0, 0), ((3,), OPEN, 0, 1)], TIDES, 0, low)
        # At low water the open gate lets the pond run dry ahead of the wheel.
        self.follows([((0,), SHUT, 5, 0), ((0,), OPEN, 0, 1), ((1,), SHUT, 0, 0)], TIDES, 1, low)

    def test_the_moves_are_counted_for_each_gate(self):
        mill = ((0, ()), (POND,), ((SEA, 0, 3, 1),) * 3, ())
        for ahead in all_truths(3):
            told = [((0,), setting, 6, 2 + sum(one != other for one, other in zip(ahead, setting)))
                    for setting in all_truths(3)]
            self.follows(told, mill, 0, [((0,), ahead, 6, 2)])

    def test_no_states(self):
        for mill in (BARE, FILLING, DRAINING, TIDES, LARGE):
            self.follows([], mill, 0, [])

    def test_the_sea_is_that_of_the_turn(self):
        for turn in (0, 2, FAR_TURN, FAR_TURN + 2):
            self.follows([((1,), SHUT, 0, 0), ((3,), OPEN, 0, 1)], TIDES, turn, [((1,), SHUT, 0, 0)])
        for turn in (1, 3, FAR_TURN - 1, FAR_TURN + 1):
            self.follows([((0,), SHUT, 5, 0), ((0,), OPEN, 0, 1), ((1,), SHUT, 0, 0)], TIDES, turn,
                         [((1,), SHUT, 0, 0)])

    def test_great_ground_and_moves(self):
        told = [((1,), (), FAR + 7, FAR), ((2,), (), FAR, FAR)]
        self.follows(told, DRAINING, FAR_TURN, [((2,), (), FAR, FAR)])


class TestOnePairFromSeveralStates(Layering):
    def drained(self, one, two):
        # What comes to one bucket from the state of one bucket, by waiting, and from that of two, by grinding seven.
        layer = [((1,), (), *one), ((2,), (), *two)]
        told = {state[0]: state[2:] for state in self.ask(next_layer, DRAINING, 0, layer)}
        self.assertEqual(layer_of(all_next(DRAINING, 0, layer)), next_layer(DRAINING, 0, layer))
        return told[(1,)]

    def test_more_ground(self):
        self.assertEqual(self.drained((0, 0), (3, 0)), (10, 0))
        self.assertEqual(self.drained((20, 0), (3, 0)), (20, 0))
        self.assertEqual(self.drained((9, 0), (3, 0)), (10, 0))
        self.assertEqual(self.drained((11, 0), (3, 0)), (11, 0))

    def test_more_ground_whatever_the_moves(self):
        self.assertEqual(self.drained((9, 0), (3, 40)), (10, 40))
        self.assertEqual(self.drained((11, 40), (3, 0)), (11, 40))

    def test_as_much_ground_and_fewer_moves(self):
        self.assertEqual(self.drained((10, 4), (3, 1)), (10, 1))
        self.assertEqual(self.drained((10, 1), (3, 4)), (10, 1))
        self.assertEqual(self.drained((10, 4), (3, 4)), (10, 4))
        self.assertEqual(self.drained((10, 0), (3, 1)), (10, 0))

    def test_states_of_the_same_contents_with_unlike_settings(self):
        still = ((0, ()), (POND,), ((SEA, 0, 3, 1),), ())
        for shut, opened, told in (
                ((0, 0), (0, 5), ((0, 0), (0, 1))), ((0, 5), (0, 0), ((0, 1), (0, 0))),
                ((0, 3), (0, 2), ((0, 3), (0, 2))), ((0, 4), (0, 2), ((0, 3), (0, 2))),
                ((1, 9), (0, 0), ((1, 9), (1, 10))), ((0, 0), (1, 9), ((1, 10), (1, 9)))):
            layer = [((0,), SHUT, *shut), ((0,), OPEN, *opened)]
            self.follows([((0,), SHUT, *told[0]), ((0,), OPEN, *told[1])], still, 0, layer)

    def test_two_runnings_that_leave_the_same_contents(self):
        for grinds in ((2, 5), (5, 2), (4, 4)):
            wheels = tuple((0, SEA, 1, 2, grind) for grind in grinds)
            mill = ((-5, ()), (POND,), (), wheels)
            told = [((1,), (), max(grinds), 0), ((3,), (), 0, 0)]
            self.follows(told, mill, 0, [((3,), (), 0, 0)])

    def test_two_settings_that_leave_the_same_contents_stay_apart(self):
        mill = ((5, ()), (POND,), ((SEA, 0, 0, 3), (SEA, 0, 0, 3)), ())
        told = [((0,), (False, False), 0, 0), ((3,), (False, True), 0, 1), ((3,), (True, False), 0, 1),
                ((3,), (True, True), 0, 2)]
        self.follows(told, mill, 0, [((0,), (False, False), 0, 0)])


class TestTheOrder(Layering):
    def is_in_order(self, layer):
        pairs = [(list(contents), [int(opened) for opened in setting]) for contents, setting, ground, moves in layer]
        self.assertTrue(all(one < other for one, other in zip(pairs, pairs[1:])))

    def test_by_contents_then_by_settings(self):
        mill = ((5, ()), (("a", 1, 0, 1), ("b", 1, 0, 1)), ((SEA, 0, 0, 1), (SEA, 1, 0, 1)), ())
        told = [
            ((0, 0), (False, False), 0, 0), ((0, 1), (False, True), 0, 1),
            ((1, 0), (True, False), 0, 1), ((1, 1), (True, True), 0, 2)]
        self.follows(told, mill, 0, [((0, 0), (False, False), 0, 0)])
        full = [((1, 1), setting, 0, sum(setting)) for setting in all_truths(2)]
        self.follows(full, mill, 0, [((1, 1), (False, False), 0, 0)])

    def test_contents_by_their_numbers_and_not_as_texts(self):
        mill = ((-50, ()), (("a", 12, 0, 1),), (), ((0, SEA, 1, 2, 1),))
        told = [((9,), (), 1, 0), ((11,), (), 0, 0)]
        self.follows(told, mill, 0, [((11,), (), 0, 0)])

    def test_the_ground_counts_nothing_for_it(self):
        layer = [((0,), (), 50, 9), ((1,), (), 3, 50), ((3,), (), 0, 0)]
        self.follows(layer, BARE, 0, layer)

    def test_over_many_layers(self):
        for draw, mill, contents, setting in bounded_mills(60, 2000):
            for turn in (0, 5):
                self.is_in_order(next_layer(mill, turn, random_layer(draw, mill)))


class TestManyNextLayers(Layering):
    def test_over_random_layers_of_small_mills(self):
        many = 0
        for draw, mill, contents, setting in itertools.chain(bounded_mills(120, 400), tidal_mills(60)):
            turn = draw.choice((0, 1, 2, FAR_TURN))
            layer = random_layer(draw, mill)
            self.follows(layer_of(all_next(mill, turn, layer)), mill, turn, layer)
            many += 1
        self.assertGreater(many, 100)

    def test_all_pairs_of_a_large_mill(self):
        self.assertEqual(size_of(LARGE), 2000)
        draw = random.Random(7)
        layer = [(*pair, draw.randrange(4), draw.randrange(4)) for pair in pairs_of(LARGE)]
        self.tells(layer_of(all_next(LARGE, 1, layer)), next_layer, LARGE, 1, layer)


class TestLayers(Asking):
    def layered(self, told, mill, contents, setting, turn, turns):
        self.tells(told, layers, mill, contents, setting, turn, turns)
        self.assertEqual([layer_of(states) for states in all_reached(mill, contents, setting, turn, turns)], told)

    def test_no_turns(self):
        for turn in (0, 1, FAR_TURN):
            self.layered([[((2,), OPEN, 0, 0)]], TIDES, (2,), OPEN, turn, 0)
            self.layered([[((2,), (), 0, 0)]], BARE, (2,), (), turn, 0)

    def test_one_layer_more_than_turns(self):
        for turns in range(8):
            self.assertEqual(len(self.ask(layers, TIDES, (0,), SHUT, 0, turns)), turns + 1)

    def test_neither_gates_nor_wheels(self):
        self.layered([[((2,), (), 0, 0)]] * 41, BARE, (2,), (), 3, 40)

    def test_gates_and_no_wheels(self):
        told = [
            [((0,), SHUT, 0, 0)],
            [((0,), SHUT, 0, 0), ((1,), OPEN, 0, 1)],
            [((0,), SHUT, 0, 0), ((1,), SHUT, 0, 2), ((1,), OPEN, 0, 1), ((2,), OPEN, 0, 1)],
        ]
        self.layered(told, FILLING, (0,), SHUT, 0, 2)

    def test_wheels_and_no_gates(self):
        told = [
            [((2,), (), 0, 0)],
            [((1,), (), 7, 0), ((2,), (), 0, 0)],
            [((0,), (), 14, 0), ((1,), (), 7, 0), ((2,), (), 0, 0)],
            [((0,), (), 14, 0), ((1,), (), 7, 0), ((2,), (), 0, 0)],
        ]
        self.layered(told, DRAINING, (2,), (), 9, 3)

    def test_each_layer_at_its_own_turn(self):
        high = [
            [((1,), SHUT, 0, 0)],
            [((1,), SHUT, 0, 0), ((3,), OPEN, 0, 1)],
            [((0,), SHUT, 5, 0), ((0,), OPEN, 5, 1), ((1,), SHUT, 0, 0), ((1,), OPEN, 0, 1), ((2,), SHUT, 5, 2),
             ((3,), SHUT, 0, 2)],
        ]
        low = [
            [((1,), SHUT, 0, 0)],
            [((0,), SHUT, 5, 0), ((0,), OPEN, 0, 1), ((1,), SHUT, 0, 0)],
            [((0,), SHUT, 5, 0), ((1,), SHUT, 0, 0), ((2,), OPEN, 5, 1), ((3,), OPEN, 0, 1)],
        ]
        for turn in (0, 40, FAR_TURN):
            self.layered(high, TIDES, (1,), SHUT, turn, 2)
            self.layered(low, TIDES, (1,), SHUT, turn + 1, 2)

    def test_each_layer_is_the_next_of_the_one_ahead(self):
        for draw, mill, contents, setting in bounded_mills(30, 500):
            turn = draw.choice((0, 3, FAR_TURN))
            told = self.ask(layers, mill, contents, setting, turn, 6)
            self.assertEqual(told[0], [(contents, setting, 0, 0)])
            for number in range(6):
                self.assertEqual(repr(next_layer(mill, turn + number, told[number])), repr(told[number + 1]))

    def test_against_all_that_plans_come_to(self):
        for draw, mill, contents, setting in itertools.chain(bounded_mills(60, 300), tidal_mills(60)):
            turn = draw.choice((0, 1, 2, 17, FAR_TURN))
            told = [layer_of(states) for states in all_reached(mill, contents, setting, turn, 5)]
            self.layered(told, mill, contents, setting, turn, 5)

    def test_forty_turns_of_a_small_mill(self):
        for turn in (0, 1, FAR_TURN):
            told = [layer_of(states) for states in all_reached(TIDES, (1,), SHUT, turn, 40)]
            self.layered(told, TIDES, (1,), SHUT, turn, 40)
            # At each of the twenty turns of low water the wheel turns.
            self.assertEqual(max(state[2] for state in told[40]), 100)

    def test_forty_turns_of_a_large_mill(self):
        told = layers(LARGE, (4, 9), (False, False, False), 5, 40)
        self.assertEqual(len(told), 41)
        self.assertGreater(max([len(layer) for layer in told]), 500)
        grounds = [max(state[2] for state in layer) for layer in told]
        self.assertEqual(grounds, sorted(grounds))
        for contents, setting, ground, moves in told[40]:
            self.assertTrue(stands_right(LARGE, contents))


class TestWhatIsToldIsTheAskersOwn(Asking):
    def test_the_next_layer_may_be_changed_and_is_told_anew(self):
        for mill, layer in ((BARE, [((1,), (), 0, 0)]), (TIDES, [((1,), SHUT, 0, 0)]), (BARE, [])):
            first = next_layer(mill, 0, layer)
            before = repr(first)
            second = next_layer(mill, 0, layer)
            self.assertIsNot(first, layer)
            second.append("rubbish")
            second.reverse()
            self.assertEqual(repr(first), before)
            first.clear()
            self.assertEqual(repr(next_layer(mill, 0, layer)), before)

    def test_layers_and_each_of_them_may_be_changed_and_are_told_anew(self):
        for mill, setting in ((BARE, ()), (TIDES, SHUT)):
            for turns in (0, 1, 4):
                first = layers(mill, (1,), setting, 0, turns)
                before = repr(first)
                second = layers(mill, (1,), setting, 0, turns)
                self.assertEqual(len({id(layer) for layer in first + second}), 2 * turns + 2)
                for layer in second:
                    layer.append("rubbish")
                second.clear()
                self.assertEqual(repr(first), before)
                for layer in first:
                    layer.clear()
                self.assertEqual(repr(layers(mill, (1,), setting, 0, turns)), before)

    def test_other_questions_between_change_nothing(self):
        first = layers(TIDES, (1,), SHUT, 0, 5)
        before = repr(first)
        for draw, mill, contents, setting in bounded_mills(20, 200):
            layers(mill, contents, setting, 3, 3)
        layers(TIDES, (2,), OPEN, 1, 7)
        self.assertEqual(repr(first), before)
        self.assertEqual(repr(layers(TIDES, (1,), SHUT, 0, 5)), before)

    def test_the_kinds_of_what_is_told(self):
        for mill, contents, setting in ((TIDES, (1,), SHUT), (LARGE, (4, 9), (True, False, True)), (BARE, (3,), ())):
            told = layers(mill, contents, setting, 0, 3)
            self.assertEqual({type(told)} | {type(layer) for layer in told}, {list})
            for state in itertools.chain(*told):
                self.assertEqual([type(part) for part in state], [tuple, tuple, int, int])
                self.assertEqual([type(content) for content in state[0]], [int] * len(mill[1]))
                self.assertEqual([type(opened) for opened in state[1]], [bool] * len(mill[2]))


if __name__ == "__main__":
    unittest.main()
