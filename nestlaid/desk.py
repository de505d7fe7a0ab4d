"""The desk: a board that is told rows of text and answers by texts."""

from nestlaid.board import Board
from nestlaid.errors import NoRow, NoText
from nestlaid.look import box_at, drawn, sticks_out
from nestlaid.reading import read_line, read_style_alone, read_whole, refuse_unless_written
from nestlaid.styles import Style
from nestlaid.texts import read_tree, show_tree

DEEDS = ("put", "take", "restyle", "retell", "frame")


class Desk:
    """Has at first no board."""

    def __init__(self):
        self.board = None

    def say(self, row):
        """Does what the row tells, and answers it."""
        if not isinstance(row, str):
            raise NoRow("a row is a text")
        head, feed, text = row.partition("\n")
        if feed != "":
            return self.begin(head, text)
        if self.board is None:
            raise NoRow("there is no board yet")
        word, blank, rest = row.partition(" ")
        if blank == "":
            return self.answer_word(word)
        if word in DEEDS:
            self.board.together([read_by(read_deed, row)])
            return "ok"
        return self.answer_question(read_by(read_question, row))

    def begin(self, head, text):
        """Makes a new board of the frame that the head tells and of the tree's text."""
        wide, high = read_by(read_begin, head)
        tree = read_tree(text)
        self.board = Board(tree, wide=wide, high=high)
        return "ok"

    def answer_word(self, word):
        """The answer to a row of one word."""
        wide, high = self.board.frame()
        if word == "undo":
            self.board.undo()
            return "ok"
        if word == "anew":
            return ", ".join([f"{name} {its_word}" for name, its_word, reason in self.board.anew()])
        if word == "out":
            return ", ".join([f"{name} {way}" for name, way in sticks_out(self.board.tree(), wide=wide, high=high)])
        if word == "draw":
            return "\n".join(drawn(self.board.tree(), wide=wide, high=high))
        if word == "tree":
            return show_tree(self.board.tree())
        raise NoRow("there is no such row")

    def answer_question(self, question):
        """The answer to a question of several words."""
        word, first, second = question
        if word == "place":
            return " ".join([str(number) for number in self.board.place(first)])
        if word == "number":
            return str(self.board.number(first, second))
        wide, high = self.board.frame()
        name = box_at(self.board.tree(), first, second, wide=wide, high=high)
        return "none" if name is None else name


def read_by(reader, row):
    """What the reader reads of a row; what isn't so written is no row."""
    try:
        return reader(row)
    except NoText:
        raise NoRow("this is no row") from None


def read_begin(head):
    """The frame of the row that begins a new board."""
    words = head.split(" ")
    refuse_unless_written(len(words) == 3 and words[0] == "tree")
    return read_whole(words[1]), read_high(words[2])


def read_high(text):
    return None if text == "free" else read_whole(text)


def read_deed(row):
    """The deed, a tuple, that the row tells."""
    word, blank, rest = row.partition(" ")
    if word == "put":
        return read_put(rest)
    if word == "take":
        return "take", read_word(rest)
    if word == "restyle":
        name, blank, words = rest.partition(" ")
        style = Style() if blank == "" else read_style_alone(words.split(" "))
        return "restyle", read_word(name), style
    if word == "retell":
        name, colon, text = rest.partition(" : ")
        refuse_unless_written(colon != "")
        return "retell", read_word(name), text.replace("|", "\n")
    wide, high = read_two(rest)
    return "frame", read_whole(wide), read_high(high)


def read_put(rest):
    holder, blank, behind = rest.partition(" ")
    at, blank, line = behind.partition(" ")
    dots, box, spot = read_line(line)
    refuse_unless_written(dots == 0)
    return "put", read_word(holder), read_whole(at), box, spot


def read_question(row):
    """The question that the row asks, a tuple of its word and of two things more."""
    word, blank, rest = row.partition(" ")
    if word == "place":
        return "place", read_word(rest), None
    first, second = read_two(rest)
    if word == "number":
        return "number", first, second
    refuse_unless_written(word == "at")
    return "at", read_whole(first), read_whole(second)


def read_word(text):
    """A word without blanks, of one sign at least."""
    refuse_unless_written(text != "" and " " not in text)
    return text


def read_two(text):
    """Two words with one blank between."""
    first, blank, second = text.partition(" ")
    return read_word(first), read_word(second)
