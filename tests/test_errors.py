import unittest

from nestlaid import errors

KINDS = (
    "NoNumber NoText NoName NoStyle NoBox NoTruth NoPack NoStand NoTrack NoSpot NoTree NoFrame "
    "NoHolder NoPlace NoWords NoAsk NoWord Ring NoDeed Busy NoRow"
).split()
WITH_FIELDS = ("NoText", "Ring")


class ErrorsTest(unittest.TestCase):
    def kinds(self):
        return [getattr(errors, name) for name in KINDS]

    def test_nest_error_is_a_value_error(self):
        self.assertEqual(errors.NestError.__bases__, (ValueError,))

    def test_each_stands_straight_under_nest_error(self):
        for kind in self.kinds():
            with self.subTest(kind=kind):
                self.assertEqual(kind.__bases__, (errors.NestError,))
                self.assertEqual(kind.__module__, "nestlaid.errors")

    def test_none_stands_under_another_one(self):
        for one in self.kinds():
            for other in self.kinds():
                if one is not other:
                    self.assertFalse(issubclass(one, other), (one, other))

    def test_names_are_their_own(self):
        self.assertEqual([kind.__name__ for kind in self.kinds()], KINDS)

    def test_each_without_fields_may_be_made_of_a_text(self):
        for kind in [errors.NestError, *self.kinds()]:
            if kind.__name__ not in WITH_FIELDS:
                self.assertEqual(str(kind("so it is")), "so it is")

    def test_each_is_caught_as_a_nest_error_and_as_a_value_error(self):
        for kind in self.kinds():
            with self.assertRaises(errors.NestError):
                raise kind("so it is")
            with self.assertRaises(ValueError):
                raise kind("so it is")

    def test_line_of_no_text(self):
        self.assertEqual(errors.NoText("so it is").line, 0)
        self.assertEqual(errors.NoText().line, 0)
        self.assertEqual(errors.NoText("so it is", 7).line, 7)
        self.assertEqual(str(errors.NoText("so it is", 7)), "so it is")

    def test_ring_of_ring(self):
        told = [("a", "wide"), ("b", "wish")]
        error = errors.Ring("so it is", told)
        self.assertEqual(error.ring, [("a", "wide"), ("b", "wish")])
        self.assertEqual(str(error), "so it is")
        self.assertIs(type(errors.Ring("so it is").ring), list)

    def test_ring_is_a_list_of_its_own(self):
        told = [("a", "wide")]
        error = errors.Ring("so it is", told)
        told.append(("b", "wish"))
        self.assertEqual(error.ring, [("a", "wide")])
        error.ring.clear()
        self.assertEqual(told, [("a", "wide"), ("b", "wish")])
        errors.Ring("first").ring.append(1)
        self.assertEqual(errors.Ring("second").ring, [])


if __name__ == "__main__":
    unittest.main()
