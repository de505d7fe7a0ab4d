"""What several tests need: odd things, numbers in a fixed row, exact refusals."""

import decimal
import fractions


class Hostile:
    """Fails at whatever is asked of it, so it must be refused by its kind alone."""

    def fail(self, *told):
        raise AssertionError("a thing of another kind was looked into")

    __eq__ = __lt__ = __le__ = __gt__ = __ge__ = __len__ = __iter__ = fail
    __bool__ = __getitem__ = __contains__ = __int__ = __index__ = __str__ = fail
    __hash__ = None


def odd_things():
    """Things of any kind, new ones at each call."""
    return [
        None, True, False, -1, 0, 1, 1.0, 0.5, float("nan"), float("inf"), 1j,
        fractions.Fraction(3), decimal.Decimal(3), "", "3", "a b", b"", b"ab",
        bytearray(b"ab"), (), (1,), (1, 2), [], [1], ["a"], [None], [[1]], {}, {0: 1},
        set(), {1}, frozenset([1]), range(3), iter([1]), (n for n in [1]), object(),
        int, str, list, len, lambda: 1, Ellipsis, NotImplemented, Hostile(),
    ]


def is_plain_whole(thing):
    return type(thing) is int


def no_counts():
    """What is no whole number from 0 on."""
    return [x for x in odd_things() if not is_plain_whole(x) or x < 0] + [-2, -10 ** 12]


def no_lists():
    return [x for x in odd_things() if type(x) is not list]


def no_texts():
    return [x for x in odd_things() if type(x) is not str]


def refused(case, kind, asked, *told, **named):
    """The refusal, of just this class, that the call ends with."""
    try:
        answer = asked(*told, **named)
    except Exception as error:
        case.assertIs(type(error), kind, repr(error))
        return error
    case.fail(f"not refused, but answered {answer!r}")


class Numbers:
    """Numbers as if by chance, yet the same ones in each run."""

    def __init__(self, seed):
        self.state = seed

    def below(self, most):
        self.state = (self.state * 6364136223846793005 + 1442695040888963407) % 2 ** 64
        return (self.state >> 16) % most

    def one_of(self, things):
        return things[self.below(len(things))]

    def of_figures(self, most_figures):
        return self.below(10 ** (1 + self.below(most_figures)))
