import itertools
import unittest

from helper import Hostile, Numbers, no_counts, no_lists, odd_things, refused
from nestlaid.errors import NoAsk, NoNumber, NoTrack
from nestlaid.tracks import track_sizes
from oracle import sized

BIG = 10 ** 12 - 1


def no_tracks():
    """What is no list of tracks."""
    near = [[], [None], [-1], [True], [1.0], ["Fit"], [""], ["fit "], [("share",)], [("share", 0)], [("share", 1, 1)]]
    near += [[("share", True)], [("share", 1.5)], [["share", 1]], [("Share", 1)], [("part", 1)], [(1, "share")]]
    near += [("fit",), "fit", ["fit", None], [3, "fit", ("share", -1)], [Hostile()], [("share", Hostile())]]
    return no_lists() + near + [[[1]], [["fit"]]]


def no_asks():
    """What is no list of asks of three tracks."""
    wrongs = no_lists() + [[None], [()], [(0, 1)], [(0, 1, 2, 3)], [[0, 1, 2]], [(0, 1, 2), None], ["abc"], [{}]]
    wrongs += [[(0, 0, 1)], [(3, 1, 1)], [(0, 4, 1)], [(2, 2, 1)], [(1, 3, 1)], [(BIG, 1, 1)], [(0, BIG, 1)]]
    for wrong in no_counts():
        wrongs += [[(wrong, 1, 1)], [(0, wrong, 1)], [(0, 1, wrong)], [(0, 1, 1), (1, 1, wrong)]]
    return wrongs + [[Hostile()], ((0, 1, 2),)]


class SizesTest(unittest.TestCase):
    def check(self, tracks, asks, gap, right):
        """The sizes are these, whatever the asks' order, and also where each ask is told twice."""
        before = (list(tracks), list(asks))
        self.assertEqual(track_sizes(tracks, asks, gap), right)
        self.assertEqual((tracks, asks), before)
        for order in itertools.islice(itertools.permutations(asks), 24):
            self.assertEqual(track_sizes(tracks, list(order), gap), right)
        self.assertEqual(track_sizes(tracks, asks + asks[::-1], gap), right)
        self.assertEqual(sized(tracks, asks, gap), right)

    def test_the_documents_example(self):
        self.check(["fit", 3, "fit"], [(0, 1, 4)], 1, [4, 3, 0])
        self.check(["fit", 3, "fit"], [(0, 1, 4), (0, 3, 12)], 1, [5, 3, 2])

    def test_without_asks(self):
        self.check(["fit"], [], 0, [0])
        self.check([7, "fit", ("share", 3), 0], [], 5, [7, 0, 0, 0])

    def test_of_one_track_the_greatest(self):
        self.check(["fit", "fit"], [(0, 1, 4), (0, 1, 9), (1, 1, 2), (0, 1, 0)], 3, [9, 2])
        self.check([("share", 2)], [(0, 1, 6)], 0, [6])

    def test_a_track_of_so_many_cells_stays(self):
        self.check([5], [(0, 1, 9)], 0, [5])
        self.check([5], [(0, 1, 2)], 0, [5])
        self.check([5, 2], [(0, 2, 90)], 1, [5, 2])
        self.check([0, "fit"], [(0, 1, 9), (0, 2, 3)], 0, [0, 3])

    def test_of_several_what_is_lacking_is_dealt_in_order(self):
        self.check(["fit", "fit", "fit"], [(0, 3, 7)], 0, [2, 2, 3])
        self.check(["fit", "fit", "fit"], [(0, 3, 8)], 0, [2, 3, 3])
        self.check(["fit", "fit", "fit"], [(0, 3, 1)], 0, [0, 0, 1])
        self.check(["fit", ("share", 9)], [(0, 2, 5)], 0, [2, 3])

    def test_gaps_count(self):
        self.check(["fit", "fit", "fit"], [(0, 3, 13)], 3, [2, 2, 3])
        self.check(["fit", "fit"], [(0, 2, 5)], 5, [0, 0])
        self.check(["fit", "fit"], [(0, 2, 5)], 9, [0, 0])
        self.check([4, "fit"], [(0, 2, 9)], 2, [4, 3])

    def test_only_what_is_lacking_behind_fewer_tracks(self):
        self.check(["fit", "fit"], [(0, 1, 6), (0, 2, 10)], 0, [8, 2])
        self.check(["fit", "fit"], [(0, 1, 6), (1, 1, 4), (0, 2, 10)], 0, [6, 4])
        self.check(["fit", "fit"], [(0, 1, 6), (1, 1, 4), (0, 2, 3)], 0, [6, 4])
        self.check(["fit", "fit", "fit"], [(0, 2, 4), (0, 3, 9)], 0, [3, 4, 2])

    def test_all_of_one_many_at_once(self):
        self.check(["fit", "fit", "fit"], [(0, 2, 4), (1, 2, 4)], 0, [2, 2, 2])
        self.check(["fit", "fit", "fit"], [(0, 2, 4), (1, 2, 10)], 0, [2, 5, 5])
        self.check(["fit", 1, "fit", "fit"], [(0, 2, 4), (1, 2, 6), (2, 2, 3)], 0, [3, 1, 5, 2])

    def test_each_track_takes_the_greatest_of_one_many(self):
        self.check(["fit", "fit"], [(0, 2, 7), (0, 2, 6)], 0, [3, 4])
        self.check(["fit", "fit", "fit"], [(0, 2, 5), (1, 2, 5)], 0, [2, 3, 3])

    def test_ten_tracks_and_beyond_and_big_numbers(self):
        self.check(["fit"] * 10, [(0, 10, 105)], 1, [9, 10, 9, 10, 10, 9, 10, 9, 10, 10])
        self.check(["fit"] * 15, [(5, 10, 10)], 0, [0] * 5 + [1] * 10)
        self.check(["fit", BIG, "fit"], [(0, 3, 3 * BIG)], BIG, [0, BIG, 0])
        self.check(["fit", "fit"], [(0, 2, BIG)], 0, [BIG // 2, BIG - BIG // 2])
        self.check([10 ** 15, "fit"], [(0, 2, 10 ** 15 + 4)], 1, [10 ** 15, 3])

    def test_by_names(self):
        self.assertEqual(track_sizes(gap=1, asks=[(0, 1, 4), (0, 3, 12)], tracks=["fit", 3, "fit"]), [5, 3, 2])

    def test_many_and_each_ask_has_its_size(self):
        numbers = Numbers(31)
        for _ in range(400):
            kinds = ("fit", numbers.below(9), ("share", 1 + numbers.below(3)))
            tracks = [numbers.one_of(kinds) for _ in range(1 + numbers.below(7))]
            asks = []
            for _ in range(numbers.below(6)):
                first = numbers.below(len(tracks))
                asks.append((first, 1 + numbers.below(len(tracks) - first), numbers.below(30)))
            gap = numbers.below(3)
            told = track_sizes(tracks, asks, gap)
            self.check(tracks, asks, gap, told)
            for first, many, size in asks:
                if any(type(track) is not int for track in tracks[first:first + many]):
                    self.assertGreaterEqual(sum(told[first:first + many]) + gap * (many - 1), size)
            for track, size in zip(tracks, told):
                self.assertTrue(type(track) is not int or size == track)

    def test_the_list_is_the_askers_own(self):
        tracks = [3, 4]
        told = track_sizes(tracks, [], 0)
        self.assertIs(type(told), list)
        told.append(9)
        self.assertEqual(tracks, [3, 4])
        self.assertEqual(track_sizes(tracks, [], 0), [3, 4])


class RefusedTest(unittest.TestCase):
    def test_no_track_goes_first(self):
        for wrong in no_tracks():
            refused(self, NoTrack, track_sizes, wrong, [], 0)
            refused(self, NoTrack, track_sizes, wrong, Hostile(), Hostile())
            refused(self, NoTrack, track_sizes, gap=-1, asks=None, tracks=wrong)

    def test_no_ask_goes_second(self):
        for wrong in no_asks():
            refused(self, NoAsk, track_sizes, ["fit", 2, ("share", 1)], wrong, 0)
            refused(self, NoAsk, track_sizes, ["fit", 2, ("share", 1)], wrong, Hostile())

    def test_no_number_goes_last(self):
        for wrong in no_counts():
            refused(self, NoNumber, track_sizes, ["fit"], [], wrong)
            refused(self, NoNumber, track_sizes, ["fit", 2], [(0, 2, 9)], wrong)

    def test_odd_tracks_in_a_list(self):
        for wrong in odd_things():
            if type(wrong) is not int or wrong < 0:
                refused(self, NoTrack, track_sizes, [1, wrong], [], 0)
                refused(self, NoTrack, track_sizes, [("share", wrong)], [], 0)


if __name__ == "__main__":
    unittest.main()
