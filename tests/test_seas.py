"""Points 5, 6 and 7, and what point 4 says of the sea."""

import itertools
import unittest

from asking import FAR, LAST_TURN, Asking
from tidepond.seas import highest, lowest, next_reach, ring_at, round_of, sea_at, whole_round

SIXTY = tuple(range(100, 160))
ONE_RING = (5, ((0, (0, 3, 1)),))
FOUR_RINGS = (-7, ((0, (1, 2)), (1, (10, 20, 30)), (1000, (100, 200, 300, 400)), (7, (-5,))))


def ring_of_length(length, shift=0):
    # One height stands out, so that no lesser number of turns brings it round.
    return (shift, (1,) + (0,) * (length - 1))


def sea_of_lengths(*lengths):
    return (0, tuple(ring_of_length(length) for length in lengths))


def small_seas():
    heights = [told for length in (1, 2, 3, 4) for told in itertools.product((-1, 0, 2), repeat=length)]
    for told in heights:
        yield (3, ((1, told),))
    for one, other in itertools.product(heights[::2], heights[::3]):
        yield (-2, ((2, one), (5, other)))


def walked(sea, turns):
    # Each ring is turned on by hand, one height a turn, without reckoning a rest.
    base, rings = sea
    at = []
    wheels = []
    for shift, heights in rings:
        wheel = list(heights)
        for step in range(shift):
            wheel.append(wheel.pop(0))
        wheels.append(wheel)
    for turn in range(turns):
        at.append(base + sum(wheel[0] for wheel in wheels))
        for wheel in wheels:
            wheel.append(wheel.pop(0))
    return at


class TestRingAt(Asking):
    def test_one_height_is_told_at_every_turn(self):
        for shift in (0, 1, 1000):
            for turn in (0, 1, 2, 59, LAST_TURN):
                self.tells(-1000, ring_at, (shift, (-1000,)), turn)

    def test_heights_are_told_one_behind_the_other_and_come_round(self):
        for turn, height in enumerate((4, -2, 9, 4, -2, 9, 4)):
            self.tells(height, ring_at, (0, (4, -2, 9)), turn)

    def test_the_shift_is_added_to_the_turn(self):
        for turn, height in enumerate((-2, 9, 4, -2)):
            self.tells(height, ring_at, (1, (4, -2, 9)), turn)

    def test_a_shift_beyond_how_many_heights_there_are(self):
        self.tells(4, ring_at, (3, (4, -2, 9)), 0)
        self.tells(9, ring_at, (5, (4, -2, 9)), 0)
        self.tells(-2, ring_at, (1000, (4, -2, 9)), 0)
        self.tells(9, ring_at, (1000, (4, -2, 9)), 1)

    def test_sixty_heights(self):
        self.tells(100, ring_at, (0, SIXTY), 0)
        self.tells(159, ring_at, (0, SIXTY), 59)
        self.tells(100, ring_at, (0, SIXTY), 60)
        self.tells(140, ring_at, (1000, SIXTY), 0)
        self.tells(100, ring_at, (1000, SIXTY), 20)

    def test_the_last_turn(self):
        self.tells(140, ring_at, (0, SIXTY), LAST_TURN)
        self.tells(120, ring_at, (1000, SIXTY), LAST_TURN)
        self.tells(-2, ring_at, (0, (4, -2, 9)), LAST_TURN)


class TestSeaAt(Asking):
    def test_no_rings(self):
        for base in (-1000, 0, 1000):
            for turn in (0, 1, 17, LAST_TURN):
                self.tells(base, sea_at, (base, ()), turn)

    def test_one_ring(self):
        for turn, height in enumerate((5, 8, 6, 5, 8)):
            self.tells(height, sea_at, ONE_RING, turn)
        self.tells(8, sea_at, ONE_RING, LAST_TURN)

    def test_four_rings(self):
        self.tells(-7 + 1 + 20 + 100 - 5, sea_at, FOUR_RINGS, 0)
        self.tells(-7 + 2 + 30 + 200 - 5, sea_at, FOUR_RINGS, 1)
        self.tells(-7 + 1 + 10 + 300 - 5, sea_at, FOUR_RINGS, 2)
        self.tells(-7 + 1 + 30 + 100 - 5, sea_at, FOUR_RINGS, LAST_TURN)

    def test_the_greatest_and_least_that_can_be(self):
        self.tells(5000, sea_at, (1000, ((0, (1000,)),) * 4), LAST_TURN)
        self.tells(-5000, sea_at, (-1000, ((1000, (-1000,)),) * 4), 0)

    def test_as_the_rings_turned_by_hand(self):
        for sea in itertools.chain([FOUR_RINGS], itertools.islice(small_seas(), 0, None, 40)):
            self.assertEqual([self.ask(sea_at, sea, turn) for turn in range(30)], walked(sea, 30))


class TestWholeRound(Asking):
    def test_no_rings(self):
        self.tells(1, whole_round, (0, ()))
        self.tells(1, whole_round, (-1000, ()))

    def test_one_ring(self):
        for length in (1, 2, 59, 60):
            self.tells(length, whole_round, sea_of_lengths(length))

    def test_lengths_that_share_divisors(self):
        self.tells(12, whole_round, sea_of_lengths(4, 6))
        self.tells(12, whole_round, sea_of_lengths(6, 4))
        self.tells(60, whole_round, sea_of_lengths(60, 30))
        self.tells(60, whole_round, sea_of_lengths(60, 60, 60, 60))
        self.tells(120, whole_round, sea_of_lengths(8, 12, 20, 24))

    def test_lengths_that_share_none(self):
        self.tells(35, whole_round, sea_of_lengths(5, 7))
        self.tells(210, whole_round, sea_of_lengths(2, 3, 5, 7))
        self.tells(3422, whole_round, sea_of_lengths(58, 59))

    def test_up_to_the_longest(self):
        self.tells(5040, whole_round, sea_of_lengths(5, 7, 9, 16))
        self.tells(5040, whole_round, sea_of_lengths(60, 48, 36, 7))

    def test_heights_and_shifts_are_not_looked_at(self):
        self.tells(6, whole_round, (0, ((3, (5, 5, 5)), (9, (1, -1)))))
        self.tells(4, whole_round, (0, ((0, (1, 2, 1, 2)),)))

    def test_the_least_multiple_by_trial(self):
        for lengths in itertools.product((1, 2, 3, 4, 6, 9, 10), repeat=3):
            least = next(turns for turns in itertools.count(1) if all(turns % length == 0 for length in lengths))
            self.tells(least, whole_round, sea_of_lengths(*lengths))


class TestRoundOf(Asking):
    def test_the_whole_round(self):
        self.tells(1, round_of, sea_of_lengths(1))
        self.tells(60, round_of, sea_of_lengths(60))
        self.tells(12, round_of, sea_of_lengths(4, 6))
        self.tells(35, round_of, sea_of_lengths(5, 7))
        self.tells(5040, round_of, sea_of_lengths(5, 7, 9, 16))

    def test_heights_told_twice_over(self):
        self.tells(3, round_of, (4, ((2, (1, 5, 2, 1, 5, 2)),)))
        self.tells(20, round_of, (4, ((2, SIXTY[:20] * 3),)))
        self.tells(6, round_of, (4, ((2, (1, 5, 2, 1, 5, 3)),)))

    def test_rings_that_cancel_one_another_out(self):
        self.tells(1, round_of, (0, ((0, (1, -1)), (1, (1, -1)))))
        self.tells(1, round_of, (9, ((0, (1, 5, 2)), (3, (-1, -5, -2)))))
        self.tells(2, round_of, (0, ((0, (3, 0)), (0, (1, 5, 2)), (6, (-1, -5, -2)))))

    def test_rings_of_which_a_part_cancels_out(self):
        # The ring of six is one of two and one of three, of which the other ring takes one away.
        six = (0, (11, 20, 31, 10, 21, 30))
        self.tells(6, round_of, (0, (six,)))
        self.tells(2, round_of, (0, (six, (0, (-10, -20, -30)))))
        self.tells(3, round_of, (0, (six, (0, (-1, 0)))))

    def test_heights_all_alike(self):
        self.tells(1, round_of, (3, ((5, (7,) * 60),)))
        self.tells(1, round_of, (3, ((5, (7,) * 7), (0, (-7,) * 60))))

    def test_no_rings(self):
        self.tells(1, round_of, (-1000, ()))

    def test_only_the_last_height_of_a_round_is_unlike(self):
        self.tells(60, round_of, (0, ((0, (2,) * 59 + (3,)),)))
        self.tells(4, round_of, (0, ((0, (1, 2, 1, 3)),)))

    def test_no_divisor_of_the_whole_round_is_passed_over(self):
        for turns in (1, 2, 3, 4, 5, 6, 10, 12, 15, 20, 30, 60):
            self.tells(turns, round_of, (0, ((7, SIXTY[:turns] * (60 // turns)),)))

    def test_the_least_by_trial(self):
        for sea in itertools.islice(small_seas(), 0, None, 3):
            at = walked(sea, 48)
            least = next(turns for turns in range(1, 13) if at[turns:] == at[:-turns])
            self.tells(least, round_of, sea)

    def test_the_sea_is_as_high_behind_its_round_at_every_turn(self):
        for sea in (ONE_RING, FOUR_RINGS, (0, ()), (0, ((3, (1, 2, 1, 2)), (1, SIXTY)))):
            turns = self.ask(round_of, sea)
            for turn in itertools.chain(range(130), range(LAST_TURN - 130, LAST_TURN + 1)):
                self.assertEqual(sea_at(sea, turn), sea_at(sea, turn + turns))


class TestHighestAndLowest(Asking):
    def test_no_rings(self):
        self.tells((-1000, 0), highest, (-1000, ()))
        self.tells((1000, 0), lowest, (1000, ()))

    def test_one_ring(self):
        self.tells((8, 1), highest, ONE_RING)
        self.tells((5, 0), lowest, ONE_RING)

    def test_the_least_of_several_turns(self):
        sea = (0, ((0, (3, 9, -4, 9, -4, 3)),))
        self.tells((9, 1), highest, sea)
        self.tells((-4, 2), lowest, sea)
        self.tells((7, 0), highest, (0, ((0, (7, 7, 7)),)))
        self.tells((7, 0), lowest, (0, ((0, (7, 7, 7)),)))

    def test_the_shift_counts(self):
        sea = (0, ((4, (3, 9, -4, 9, -4, 5)),))
        self.tells((9, 3), highest, sea)
        self.tells((-4, 0), lowest, sea)

    def test_at_the_last_turn_of_a_round(self):
        self.tells((2, 59), highest, (0, ((0, (1,) * 59 + (2,)),)))
        self.tells((0, 59), lowest, (0, ((0, (1,) * 59 + (0,)),)))

    def test_it_comes_only_where_rings_meet(self):
        lengths = (5, 7, 9, 16)
        late = (0, tuple((1, (1,) + (0,) * (length - 1)) for length in lengths))
        self.tells((4, 5039), highest, late)
        low = (0, tuple((1, (-1,) + (0,) * (length - 1)) for length in lengths))
        self.tells((-4, 5039), lowest, low)

    def test_by_trial(self):
        for sea in itertools.islice(small_seas(), 0, None, 5):
            at = walked(sea, 24)
            self.tells((max(at), at.index(max(at))), highest, sea)
            self.tells((min(at), at.index(min(at))), lowest, sea)


class TestNextReach(Asking):
    def test_the_turn_itself(self):
        self.tells(1, next_reach, ONE_RING, 8, 1)
        self.tells(0, next_reach, ONE_RING, 5, 0)
        self.tells(2, next_reach, ONE_RING, 6, 2)

    def test_higher_than_asked_is_high_enough(self):
        self.tells(1, next_reach, ONE_RING, 7, 0)
        self.tells(1, next_reach, ONE_RING, 6, 1)

    def test_a_later_turn(self):
        self.tells(1, next_reach, ONE_RING, 6, 0)
        self.tells(40, next_reach, (0, ((0, SIXTY),)), 140, 3)

    def test_only_in_the_next_round(self):
        self.tells(4, next_reach, ONE_RING, 8, 2)
        self.tells(100, next_reach, (0, ((0, SIXTY),)), 140, 60)
        self.tells(60 + 59, next_reach, (0, ((0, SIXTY),)), 159, 60)
        self.tells(5039 + 5040, next_reach, (0, tuple((1, ring_of_length(n)[1]) for n in (5, 7, 9, 16))), 4, 5040)

    def test_the_last_turn_of_a_whole_round_from_there(self):
        self.tells(59 + 1, next_reach, (0, ((0, (9,) + (0,) * 59),)), 9, 1)

    def test_at_the_last_turn(self):
        self.tells(LAST_TURN, next_reach, ONE_RING, 8, LAST_TURN)
        self.tells(LAST_TURN + 3, next_reach, (0, ((0, (0, 0, 0, 6)),)), 6, LAST_TURN)
        # The rest of the last turn by sixty is 40: what stands at 39 comes last of all from there on.
        self.tells(LAST_TURN + 59, next_reach, (0, ((0, (0,) * 39 + (6,) + (0,) * 20),)), 6, LAST_TURN)

    def test_above_the_highest(self):
        self.tells(None, next_reach, ONE_RING, 9, 0)
        self.tells(None, next_reach, ONE_RING, 9, LAST_TURN)
        self.tells(None, next_reach, (4, ()), 5, 3)

    def test_far_beyond(self):
        for turn in (0, 7, LAST_TURN):
            self.tells(None, next_reach, FOUR_RINGS, FAR, turn)
            self.tells(turn, next_reach, FOUR_RINGS, -FAR, turn)

    def test_no_rings(self):
        self.tells(3, next_reach, (4, ()), 4, 3)
        self.tells(LAST_TURN, next_reach, (4, ()), -4, LAST_TURN)

    def test_by_trial(self):
        for sea in itertools.islice(small_seas(), 0, None, 9):
            at = walked(sea, 60)
            for height in range(min(at) - 1, max(at) + 2):
                for turn in (0, 1, 11, 12, 29):
                    reach = [later for later in range(turn, 60) if at[later] >= height]
                    self.tells(reach[0] if reach else None, next_reach, sea, height, turn)


if __name__ == "__main__":
    unittest.main()
