"""Words of texts, and texts wrapped into lines."""

from nestlaid.errors import NoNumber, NoText
from nestlaid.shares import is_count


def longest(text):
    """The number of signs of the text's longest word, 0 without words."""
    refuse_no_text(text)
    return max([len(word) for words in parts_of(text) for word in words], default=0)


def wished(text):
    """The number of signs of the text's longest part, its words with one blank between two."""
    refuse_no_text(text)
    return max([len(" ".join(words)) for words in parts_of(text)])


def wrapped(text, wide):
    """The list of the text's lines, none of several words wider than the width."""
    refuse_no_text(text)
    if not is_count(wide):
        raise NoNumber("the width is no whole number from 0 on")
    lines = []
    for words in parts_of(text):
        lines.extend(lines_of(words, wide))
    return lines


def refuse_no_text(thing):
    if not isinstance(thing, str):
        raise NoText("this is no text")


def parts_of(text):
    """A list for each part of the text: its words, in order."""
    # Split by the blank alone: other white signs would belong to a word.
    return [[word for word in part.split(" ") if word != ""] for part in text.split("\n")]


def lines_of(words, wide):
    """The lines of one part, each with as many of its words as the width takes."""
    if len(words) == 0:
        return [""]
    lines = [words[0]]
    for word in words[1:]:
        longer = f"{lines[-1]} {word}"
        if len(longer) <= wide:
            lines[-1] = longer
        else:
            lines.append(word)
    return lines
