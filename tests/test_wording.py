import unittest

from helper import Numbers, no_counts, no_texts, refused
from nestlaid.errors import NoNumber, NoText
from nestlaid.wording import longest, wished, wrapped

TEXTS = (
    "", " ", "   ", "\n", "\n\n", " \n  \n", "a", "a b", "the cat sat", "  the   cat  sat ",
    "\nthe cat\n", "the\ncat", " the cat \n sat on  the mat\n\n\n and so on ", "abcdefgh ij\nk",
    "a bb ccc dddd eeeee ffff ggg hh i", "x" * 400, "~!# \"(){}[]<>/\\ 0-9,.;: _^`'$&*+=?@",
)


def words_of(part):
    return [word for word in part.split(" ") if word]


def fewest_lines(words, wide):
    """The fewest lines no wider than this width, or of one word, found by trying all breakings."""
    fewest = [0]
    for end in range(1, len(words) + 1):
        tries = []
        for begin in range(end):
            if end - begin == 1 or len(" ".join(words[begin:end])) <= wide:
                tries.append(fewest[begin] + 1)
        fewest.append(min(tries))
    return max(fewest[-1], 1)


def some_texts(seed, many):
    numbers = Numbers(seed)
    for _ in range(many):
        yield "".join([numbers.one_of("aab b  c\n") for _ in range(numbers.below(60))])


class LongestTest(unittest.TestCase):
    def test_without_signs_and_without_words(self):
        for text in ("", " ", "     ", "\n", "\n\n\n", "  \n \n   "):
            self.assertEqual(longest(text), 0)

    def test_words(self):
        self.assertEqual(longest("a"), 1)
        self.assertEqual(longest("the cats sat"), 4)
        self.assertEqual(longest("the cat sat\nupon mats"), 4)
        self.assertEqual(longest("x" * 400), 400)
        self.assertEqual(longest("a-b,c.d e"), 7)

    def test_blanks_and_line_feeds_about(self):
        self.assertEqual(longest("   the    cats  "), 4)
        self.assertEqual(longest("\n the\n\n\ncats \n"), 4)
        self.assertEqual(longest("ab\ncd"), 2)
        self.assertEqual(longest("ab cd"), 2)

    def test_first_middle_last(self):
        for text in ("abcd b c", "a abcd c", "a b abcd", "a\nabcd\nc"):
            self.assertEqual(longest(text), 4)

    def test_by_name(self):
        self.assertEqual(longest(text="the cats"), 4)

    def test_refused(self):
        for wrong in no_texts():
            self.assertEqual(refused(self, NoText, longest, wrong).line, 0)
            refused(self, NoText, longest, text=wrong)


class WishedTest(unittest.TestCase):
    def test_without_signs_and_without_words(self):
        for text in ("", " ", "     ", "\n", "\n\n\n", "  \n \n   "):
            self.assertEqual(wished(text), 0)

    def test_words(self):
        self.assertEqual(wished("a"), 1)
        self.assertEqual(wished("the cat sat"), 11)
        self.assertEqual(wished("x" * 400), 400)

    def test_several_blanks_count_as_one(self):
        self.assertEqual(wished("the   cat     sat"), 11)
        self.assertEqual(wished("   the cat sat  "), 11)
        self.assertEqual(wished("a  b"), 3)

    def test_the_longest_part(self):
        self.assertEqual(wished("the cat\nsat on the mat\nx"), 14)
        self.assertEqual(wished("sat on the mat\nthe cat"), 14)
        self.assertEqual(wished("x\n\n\nsat on the mat"), 14)

    def test_line_feeds_at_either_end(self):
        self.assertEqual(wished("\nthe cat\n"), 7)
        self.assertEqual(wished(" \n the  cat \n "), 7)

    def test_by_name(self):
        self.assertEqual(wished(text="the  cats"), 8)

    def test_refused(self):
        for wrong in no_texts():
            self.assertEqual(refused(self, NoText, wished, wrong).line, 0)
            refused(self, NoText, wished, text=wrong)


class WrappedTest(unittest.TestCase):
    def check_wrapped(self, text, wide):
        lines = wrapped(text, wide)
        self.assertIs(type(lines), list)
        left = list(lines)
        for part in text.split("\n"):
            words = words_of(part)
            many = fewest_lines(words, wide)
            here, left = left[:many], left[many:]
            self.assertEqual(len(here), many)
            self.check_part(here, words, wide)
        self.assertEqual(left, [])

    def check_part(self, lines, words, wide):
        if not words:
            self.assertEqual(lines, [""])
            return
        given = [line.split(" ") for line in lines]
        self.assertEqual([word for line in given for word in line], words)
        for line, ahead in zip(given, lines):
            self.assertTrue(len(line) == 1 or len(ahead) <= wide)
        for ahead, behind in zip(lines, given[1:]):
            self.assertGreater(len(ahead) + 1 + len(behind[0]), wide)

    def test_widths_of_nought_and_one(self):
        for wide in (0, 1):
            self.assertEqual(wrapped("the cat  a b", wide), ["the", "cat", "a", "b"])
            self.assertEqual(wrapped("", wide), [""])

    def test_at_and_beside_a_fit(self):
        self.assertEqual(wrapped("the cat sat", 6), ["the", "cat", "sat"])
        self.assertEqual(wrapped("the cat sat", 7), ["the cat", "sat"])
        self.assertEqual(wrapped("the cat sat", 8), ["the cat", "sat"])
        self.assertEqual(wrapped("the cat sat", 10), ["the cat", "sat"])
        self.assertEqual(wrapped("the cat sat", 11), ["the cat sat"])
        self.assertEqual(wrapped("the cat sat", 12), ["the cat sat"])
        self.assertEqual(wrapped("the cat sat", 10 ** 12), ["the cat sat"])

    def test_words_longer_than_the_width(self):
        self.assertEqual(wrapped("a abcdefgh b c", 3), ["a", "abcdefgh", "b c"])
        self.assertEqual(wrapped("abcdefgh", 3), ["abcdefgh"])

    def test_parts_without_words(self):
        self.assertEqual(wrapped("", 5), [""])
        self.assertEqual(wrapped("   ", 2), [""])
        self.assertEqual(wrapped("\n", 5), ["", ""])
        self.assertEqual(wrapped("\na b\n\n  \nc\n", 5), ["", "a b", "", "", "c", ""])

    def test_blanks_about_words(self):
        self.assertEqual(wrapped("  the   cat  ", 20), ["the cat"])
        self.assertEqual(wrapped("  the   cat  ", 6), ["the", "cat"])

    def test_parts_are_not_joined(self):
        self.assertEqual(wrapped("a b\nc d", 20), ["a b", "c d"])

    def test_a_line_for_each_part_from_the_wish_on(self):
        for text in (*TEXTS, *some_texts(6, 40)):
            parts = text.split("\n")
            for wide in (wished(text), wished(text) + 1, 500, 10 ** 12):
                self.assertEqual(wrapped(text, wide), [" ".join(words_of(part)) for part in parts])

    def test_all_widths_give_the_fewest_lines(self):
        for text in TEXTS:
            ends = (longest(text), wished(text))
            wides = {0, 1, *range(2, 20)} | {end + by for end in ends for by in (-1, 0, 1) if end + by >= 0}
            for wide in sorted(wides):
                self.check_wrapped(text, wide)

    def test_some_texts_at_all_widths(self):
        for text in some_texts(7, 120):
            for wide in range(wished(text) + 2):
                self.check_wrapped(text, wide)

    def test_four_hundred_signs(self):
        text = " ".join(["ab", "c", "defg"] * 40)
        for wide in (0, 1, 3, 4, 5, 17, 100, len(text) - 1, len(text)):
            self.check_wrapped(text, wide)

    def test_by_name(self):
        self.assertEqual(wrapped(wide=7, text="the cat sat"), ["the cat", "sat"])
        self.assertEqual(wrapped("the cat sat", wide=7), ["the cat", "sat"])

    def test_each_told_list_is_the_askers_own(self):
        for text, wide in (("the cat sat", 7), ("", 3)):
            told = wrapped(text, wide)
            right = list(told)
            told.append("more")
            told[0] = "other"
            self.assertEqual(wrapped(text, wide), right)

    def test_what_is_no_text_is_refused(self):
        for wrong in no_texts():
            self.assertEqual(refused(self, NoText, wrapped, wrong, 5).line, 0)
            refused(self, NoText, wrapped, wide=5, text=wrong)

    def test_what_is_no_width_is_refused(self):
        for wrong in no_counts():
            refused(self, NoNumber, wrapped, "the cat", wrong)
            refused(self, NoNumber, wrapped, "", wrong)
            refused(self, NoNumber, wrapped, wide=wrong, text="the cat")

    def test_of_two_wrong_things_the_text_goes_first(self):
        for wrong in no_texts():
            for number in (-1, None, True, "5", 1.0):
                self.assertEqual(refused(self, NoText, wrapped, wrong, number).line, 0)
                refused(self, NoText, wrapped, wide=number, text=wrong)


if __name__ == "__main__":
    unittest.main()
