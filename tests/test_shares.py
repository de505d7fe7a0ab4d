import itertools
import math
import unittest
from fractions import Fraction

from helper import Numbers, is_plain_whole, no_counts, no_lists, odd_things, refused
from nestlaid.errors import NoNumber
from nestlaid.shares import dealt, held, is_whole, levelled

BIG = 10 ** 12 - 1


def in_order(level, weights):
    """What those of these weights get by the level, from the words of the document."""
    firsts = [math.floor(level * sum(weights[:many])) for many in range(len(weights) + 1)]
    return [after - before for before, after in zip(firsts, firsts[1:])]


class WholeTest(unittest.TestCase):
    def test_whole_numbers(self):
        for number in (0, 1, -1, 7, -300, BIG, -BIG, 10 ** 40):
            self.assertIs(is_whole(number), True)

    def test_truths_are_none(self):
        self.assertIs(is_whole(True), False)
        self.assertIs(is_whole(False), False)

    def test_things_of_any_kind(self):
        for thing in odd_things():
            self.assertIs(is_whole(thing), is_plain_whole(thing))

    def test_by_name(self):
        self.assertIs(is_whole(thing=3), True)
        self.assertIs(is_whole(thing="3"), False)


class HeldTest(unittest.TestCase):
    def test_below_between_above(self):
        self.assertEqual(held(1, 3, 8), 3)
        self.assertEqual(held(5, 3, 8), 5)
        self.assertEqual(held(11, 3, 8), 8)

    def test_at_and_beside_the_bounds(self):
        self.assertEqual([held(number, 3, 5) for number in range(1, 8)], [3, 3, 3, 4, 5, 5, 5])

    def test_below_nought(self):
        self.assertEqual([held(number, -4, -2) for number in (-9, -4, -3, -2, -1, 0)], [-4, -4, -3, -2, -2, -2])

    def test_no_most(self):
        self.assertEqual(held(2, 3, None), 3)
        self.assertEqual(held(3, 3, None), 3)
        self.assertEqual(held(BIG, 3, None), BIG)

    def test_a_most_of_nought_is_a_bound(self):
        self.assertEqual(held(5, 0, 0), 0)
        self.assertEqual(held(-5, -9, 0), -5)
        self.assertEqual(held(5, -9, 0), 0)

    def test_most_below_the_least(self):
        for number in range(-2, 12):
            self.assertEqual(held(number, 6, 2), 6)

    def test_least_and_most_alike(self):
        self.assertEqual([held(number, 4, 4) for number in (3, 4, 5)], [4, 4, 4])

    def test_by_name(self):
        self.assertEqual(held(most=8, number=11, least=3), 8)
        self.assertEqual(held(1, least=3, most=8), 3)


class DealingTest(unittest.TestCase):
    """What dealt and levelled have in common: lists of numbers, refusals, answers of one's own."""

    def check_told(self, told, many):
        self.assertIs(type(told), tuple)
        level, parts = told
        self.assertIs(type(parts), list)
        self.assertEqual(len(parts), many)
        for part in parts:
            self.assertTrue(is_plain_whole(part) and part >= 0)
        if level is None:
            return None, parts
        self.assertIs(type(level), tuple)
        top, bottom = level
        self.assertTrue(is_plain_whole(top) and is_plain_whole(bottom))
        self.assertGreaterEqual(bottom, 1)
        self.assertGreaterEqual(top, 0)
        self.assertEqual(math.gcd(top, bottom), 1)
        return Fraction(top, bottom), parts

    def check_dealt(self, total, caps, weights):
        level, parts = self.check_told(dealt(total, caps, weights), len(caps))
        others = [at for at in range(len(caps)) if weights[at] > 0]
        if None not in [caps[at] for at in others] and sum([caps[at] for at in others]) <= total:
            self.assertIsNone(level)
            self.assertEqual(parts, [caps[at] if at in others else 0 for at in range(len(caps))])
            return
        self.assertIsNotNone(level)
        goals = {at: level * weights[at] for at in others}
        full = [at for at in others if caps[at] is not None and caps[at] <= goals[at]]
        rest = [at for at in others if at not in full]
        self.assertEqual(sum([caps[at] for at in full]) + sum([goals[at] for at in rest]), total)
        right = [0] * len(caps)
        for at in full:
            right[at] = caps[at]
        for at, part in zip(rest, in_order(level, [weights[at] for at in rest])):
            right[at] = part
        self.assertEqual(parts, right)
        self.assertEqual(sum(parts), total)
        for at in others:
            goal = goals[at] if caps[at] is None else min(caps[at], goals[at])
            self.assertLess(abs(parts[at] - goal), 1)
            self.assertTrue(caps[at] is None or parts[at] <= caps[at])

    def check_levelled(self, total, floors, weights):
        level, parts = self.check_told(levelled(total, floors, weights), len(floors))
        others = [at for at in range(len(floors)) if weights[at] > 0]
        if others == [] or sum(floors) >= total:
            self.assertIsNone(level)
            self.assertEqual(parts, floors)
            return
        self.assertIsNotNone(level)
        rest = [at for at in others if floors[at] < level * weights[at]]
        right = list(floors)
        for at, part in zip(rest, in_order(level, [weights[at] for at in rest])):
            right[at] = part
        fixed = sum([floors[at] for at in range(len(floors)) if at not in rest])
        self.assertEqual(fixed + sum([level * weights[at] for at in rest]), total)
        self.assertEqual(parts, right)
        self.assertEqual(sum(parts), total)
        for part, floor in zip(parts, floors):
            self.assertGreaterEqual(part, floor)

    def check_refused(self, asked, total, first, weights):
        """The same refusal by place and by name, and nothing that was handed in is changed."""
        name = "caps" if asked == dealt else "floors"
        lists = [(told, list(told)) for told in (first, weights) if type(told) is list]
        refused(self, NoNumber, asked, total, first, weights)
        refused(self, NoNumber, asked, **{"weights": weights, name: first, "total": total})
        for told, before in lists:
            self.assertEqual(len(told), len(before))
            for now, then in zip(told, before):
                self.assertIs(now, then)

    def check_wrong_at_any_place(self, asked, wrongs, which):
        for at in range(3):
            for wrong in wrongs:
                lists = [[1, 2, 3], [3, 0, 1]]
                lists[which][at] = wrong
                self.check_refused(asked, 10, *lists)

    def check_nothing_shared(self, asked, total, first, weights):
        before = list(first), list(weights)
        told = asked(total, first, weights)
        again = asked(total, first, weights)
        self.assertEqual((first, weights), before)
        self.assertIsNot(told[1], again[1])
        self.assertIsNot(told[1], first)
        self.assertIsNot(told[1], weights)
        told[1].append(99)
        told[1][0] = 77
        self.assertEqual((first, weights), before)
        self.assertEqual(asked(total, first, weights), again)
        # What is changed in a list behind its being handed in changes no answer.
        kept = list(again[1])
        first[0] = 55
        weights.append(4)
        self.assertEqual(again[1], kept)


class DealtTest(DealingTest):
    def test_example(self):
        self.assertEqual(dealt(10, [None, 2, None], [1, 1, 2]), ((8, 3), [2, 2, 6]))

    def test_by_name(self):
        told = dealt(weights=[1, 1, 2], total=10, caps=[None, 2, None])
        self.assertEqual(told, ((8, 3), [2, 2, 6]))

    def test_total_of_nought(self):
        self.assertEqual(dealt(0, [None, 4], [2, 3]), ((0, 1), [0, 0]))
        self.assertEqual(dealt(0, [0, 4], [2, 3]), ((0, 1), [0, 0]))
        self.assertEqual(dealt(0, [0, 0], [2, 3]), (None, [0, 0]))
        self.assertEqual(dealt(0, [None, None], [0, 0]), (None, [0, 0]))
        self.assertEqual(dealt(0, [], []), (None, []))

    def test_total_at_and_beside_the_sum_of_the_caps(self):
        self.assertEqual(dealt(8, [3, 5], [1, 1]), (None, [3, 5]))
        self.assertEqual(dealt(9, [3, 5], [1, 1]), (None, [3, 5]))
        self.assertEqual(dealt(7, [3, 5], [1, 1]), ((4, 1), [3, 4]))

    def test_caps_of_those_without_weight_do_not_count(self):
        self.assertEqual(dealt(8, [3, 9, 5], [1, 0, 1]), (None, [3, 0, 5]))
        self.assertEqual(dealt(8, [3, None, 5], [1, 0, 1]), (None, [3, 0, 5]))
        self.assertEqual(dealt(7, [3, 9, 5], [1, 0, 1]), ((4, 1), [3, 0, 4]))

    def test_no_weights_at_all(self):
        self.assertEqual(dealt(5, [None, 3, 0], [0, 0, 0]), (None, [0, 0, 0]))

    def test_empty_lists(self):
        self.assertEqual(dealt(5, [], []), (None, []))

    def test_a_cap_just_at_the_level_is_met(self):
        self.assertEqual(dealt(4, [2, None], [1, 1]), ((2, 1), [2, 2]))
        self.assertEqual(dealt(5, [None, 2, None], [1, 2, 2]), ((1, 1), [1, 2, 2]))

    def test_a_cap_below_the_level_stands_out_of_the_running_sums(self):
        self.assertEqual(dealt(4, [None, 1, None], [1, 1, 1]), ((3, 2), [1, 1, 2]))
        self.assertEqual(dealt(5, [None, None, 2, None], [1, 1, 1, 1]), ((5, 4), [1, 1, 1, 2]))

    def test_caps_are_met_one_behind_the_other(self):
        # Each cap that is met raises the level until it meets the next one.
        self.assertEqual(dealt(40, [1, 8, 12, None], [1, 1, 1, 1]), ((19, 1), [1, 8, 12, 19]))
        self.assertEqual(dealt(20, [5, 1, 6, 30], [1, 1, 1, 1]), ((8, 1), [5, 1, 6, 8]))

    def test_remainders_by_running_sums(self):
        self.assertEqual(dealt(5, [None, None, None], [1, 1, 1]), ((5, 3), [1, 2, 2]))
        self.assertEqual(dealt(7, [None] * 5, [1] * 5), ((7, 5), [1, 1, 2, 1, 2]))
        self.assertEqual(dealt(1, [None] * 3, [1] * 3), ((1, 3), [0, 0, 1]))
        self.assertEqual(dealt(10, [None, None], [3, 1]), ((5, 2), [7, 3]))

    def test_lowest_terms(self):
        self.assertEqual(dealt(6, [None, None], [2, 2])[0], (3, 2))
        self.assertEqual(dealt(8, [None, None], [2, 2])[0], (2, 1))
        self.assertEqual(dealt(6, [None], [900])[0], (1, 150))

    def test_all_small_ones(self):
        for many in (1, 2):
            for caps in itertools.product((None, 0, 1, 2, 5), repeat=many):
                for weights in itertools.product((0, 1, 2, 3), repeat=many):
                    for total in range(9):
                        self.check_dealt(total, list(caps), list(weights))

    def test_small_ones_of_three(self):
        for caps in itertools.product((None, 0, 1, 3), repeat=3):
            for weights in itertools.product((0, 1, 3), repeat=3):
                for total in (0, 1, 4, 7):
                    self.check_dealt(total, list(caps), list(weights))

    def test_many_parts_and_long_numbers(self):
        numbers = Numbers(4)
        for turn in range(60):
            many = 1 + numbers.below(60)
            figures = numbers.one_of((1, 3, 12))
            caps = [numbers.of_figures(figures) for _ in range(many)]
            weights = [numbers.one_of((0, 1, numbers.of_figures(figures))) for _ in range(many)]
            whole = sum([cap for cap, weight in zip(caps, weights) if weight > 0])
            totals = [0, numbers.of_figures(12), whole, whole + 1, max(whole - 1, 0), whole // 2, whole // 7]
            for total in totals:
                self.check_dealt(total, caps, weights)
                some = [numbers.one_of((None, cap, cap)) for cap in caps]
                self.check_dealt(total, some, weights)

    def test_sixty_parts_of_twelve_figures(self):
        self.check_dealt(BIG, [BIG] * 60, [BIG - at for at in range(60)])
        self.check_dealt(BIG, [None] * 60, [BIG - at for at in range(60)])
        self.check_dealt(BIG, [at * 10 ** 8 for at in range(60)], [1 + at * at for at in range(60)])

    def test_total_is_refused(self):
        for wrong in no_counts():
            self.check_refused(dealt, wrong, [1, None], [1, 1])
            self.check_refused(dealt, wrong, [], [])

    def test_what_is_no_list_is_refused(self):
        for wrong in no_lists():
            self.check_refused(dealt, 3, wrong, [1, 1])
            self.check_refused(dealt, 3, wrong, [])
            self.check_refused(dealt, 3, [1, None], wrong)
            self.check_refused(dealt, 3, [], wrong)
        self.check_refused(dealt, 3, (1, 2), [1, 1])
        self.check_refused(dealt, 3, [1, 2], (1, 1))

    def test_a_wrong_thing_in_a_list_is_refused(self):
        self.check_wrong_at_any_place(dealt, [x for x in no_counts() if x is not None], 0)
        self.check_wrong_at_any_place(dealt, no_counts(), 1)

    def test_a_wrong_cap_is_refused_also_where_it_has_no_weight(self):
        self.check_refused(dealt, 10, [1, "2"], [1, 0])
        self.check_refused(dealt, 10, [-1, 2], [0, 1])

    def test_other_lengths_are_refused(self):
        for caps, weights in (([1], []), ([], [1]), ([None, 2], [1]), ([None], [1, 0]), ([0], [0, 0])):
            self.check_refused(dealt, 3, caps, weights)

    def test_nothing_is_shared_and_nothing_changed(self):
        self.check_nothing_shared(dealt, 10, [None, 2, None], [1, 1, 2])
        self.check_nothing_shared(dealt, 99, [3, 2, 1], [1, 1, 2])
        self.check_nothing_shared(dealt, 0, [3, 2, 1], [0, 0, 0])


class LevelledTest(DealingTest):
    def test_example(self):
        self.assertEqual(levelled(10, [1, 6, 0], [1, 1, 1]), ((2, 1), [2, 6, 2]))

    def test_by_name(self):
        told = levelled(weights=[1, 1, 1], total=10, floors=[1, 6, 0])
        self.assertEqual(told, ((2, 1), [2, 6, 2]))

    def test_total_of_nought(self):
        self.assertEqual(levelled(0, [0, 0], [1, 2]), (None, [0, 0]))
        self.assertEqual(levelled(0, [3, 0], [1, 2]), (None, [3, 0]))
        self.assertEqual(levelled(0, [], []), (None, []))

    def test_total_at_and_beside_the_sum_of_the_floors(self):
        self.assertEqual(levelled(8, [3, 5], [1, 1]), (None, [3, 5]))
        self.assertEqual(levelled(7, [3, 5], [1, 1]), (None, [3, 5]))
        self.assertEqual(levelled(9, [3, 5], [1, 1]), ((4, 1), [4, 5]))

    def test_floors_of_those_without_weight_count(self):
        self.assertEqual(levelled(12, [3, 4, 5], [1, 0, 1]), (None, [3, 4, 5]))
        self.assertEqual(levelled(13, [3, 4, 5], [1, 0, 1]), ((4, 1), [4, 4, 5]))
        self.assertEqual(levelled(17, [3, 4, 5], [1, 0, 1]), ((13, 2), [6, 4, 7]))

    def test_no_weights_at_all(self):
        self.assertEqual(levelled(50, [4, 3, 0], [0, 0, 0]), (None, [4, 3, 0]))

    def test_empty_lists(self):
        self.assertEqual(levelled(5, [], []), (None, []))

    def test_a_floor_just_at_the_level_is_met(self):
        self.assertEqual(levelled(6, [0, 2, 0], [1, 1, 1]), ((2, 1), [2, 2, 2]))

    def test_a_floor_above_the_level_stands_out_of_the_running_sums(self):
        self.assertEqual(levelled(5, [0, 2, 0], [1, 1, 1]), ((3, 2), [1, 2, 2]))
        self.assertEqual(levelled(5, [0, 0, 2, 0], [1, 1, 1, 1]), ((1, 1), [1, 1, 2, 1]))

    def test_floors_are_met_one_behind_the_other(self):
        # Each floor that holds lowers the level until it falls to the next one.
        self.assertEqual(levelled(40, [19, 11, 8, 0], [1, 1, 1, 1]), ((2, 1), [19, 11, 8, 2]))

    def test_remainders_by_running_sums(self):
        self.assertEqual(levelled(5, [0, 0, 0], [1, 1, 1]), ((5, 3), [1, 2, 2]))
        self.assertEqual(levelled(10, [0, 0], [3, 1]), ((5, 2), [7, 3]))

    def test_lowest_terms(self):
        self.assertEqual(levelled(6, [0, 0], [2, 2])[0], (3, 2))
        self.assertEqual(levelled(8, [1, 1], [2, 2])[0], (2, 1))

    def test_all_small_ones(self):
        for many in (1, 2):
            for floors in itertools.product((0, 1, 2, 5), repeat=many):
                for weights in itertools.product((0, 1, 2, 3), repeat=many):
                    for total in range(13):
                        self.check_levelled(total, list(floors), list(weights))

    def test_small_ones_of_three(self):
        for floors in itertools.product((0, 1, 2, 4), repeat=3):
            for weights in itertools.product((0, 1, 3), repeat=3):
                for total in (0, 1, 5, 8, 11):
                    self.check_levelled(total, list(floors), list(weights))

    def test_many_parts_and_long_numbers(self):
        numbers = Numbers(5)
        for turn in range(60):
            many = 1 + numbers.below(60)
            figures = numbers.one_of((1, 3, 12))
            floors = [numbers.of_figures(figures) for _ in range(many)]
            weights = [numbers.one_of((0, 1, numbers.of_figures(figures))) for _ in range(many)]
            whole = sum(floors)
            totals = [0, numbers.of_figures(12), max(whole - 1, 0), whole, whole + 1, whole + whole // 3, whole * 5]
            for total in totals:
                self.check_levelled(total, floors, weights)

    def test_sixty_parts_of_twelve_figures(self):
        self.check_levelled(BIG, [at * 10 ** 8 for at in range(60)], [BIG - at for at in range(60)])
        self.check_levelled(BIG, [0] * 60, [BIG - at for at in range(60)])
        self.check_levelled(BIG, [BIG] * 60, [1] * 60)

    def test_total_is_refused(self):
        for wrong in no_counts():
            self.check_refused(levelled, wrong, [1, 2], [1, 1])
            self.check_refused(levelled, wrong, [], [])

    def test_what_is_no_list_is_refused(self):
        for wrong in no_lists():
            self.check_refused(levelled, 3, wrong, [1, 1])
            self.check_refused(levelled, 3, wrong, [])
            self.check_refused(levelled, 3, [1, 2], wrong)
            self.check_refused(levelled, 3, [], wrong)
        self.check_refused(levelled, 3, (1, 2), [1, 1])
        self.check_refused(levelled, 3, [1, 2], (1, 1))

    def test_a_wrong_thing_in_a_list_is_refused(self):
        self.check_wrong_at_any_place(levelled, no_counts(), 0)
        self.check_wrong_at_any_place(levelled, no_counts(), 1)

    def test_other_lengths_are_refused(self):
        for floors, weights in (([1], []), ([], [1]), ([4, 2], [1]), ([4], [1, 0]), ([0], [0, 0])):
            self.check_refused(levelled, 9, floors, weights)

    def test_nothing_is_shared_and_nothing_changed(self):
        self.check_nothing_shared(levelled, 10, [1, 6, 0], [1, 1, 1])
        self.check_nothing_shared(levelled, 3, [1, 6, 0], [1, 1, 1])
        self.check_nothing_shared(levelled, 30, [1, 6, 0], [0, 0, 0])


if __name__ == "__main__":
    unittest.main()
