"""The error classes of the interface."""

from mergetree.errors import BadLine, Full, MergeError, NoRow, OutOfOrder
from tests.helper import Case

REFUSALS = (Full, NoRow, OutOfOrder, BadLine)


class ErrorsTest(Case):
    def test_merge_error_is_a_value_error(self):
        self.assertEqual(MergeError.__bases__, (ValueError,))
        with self.assertRaises(ValueError):
            raise MergeError("words")

    def test_each_refusal_stands_straight_under_merge_error(self):
        for refusal in REFUSALS:
            self.assertEqual(refusal.__bases__, (MergeError,), refusal)

    def test_none_stands_under_another(self):
        for one in REFUSALS:
            for other in REFUSALS:
                self.assertEqual(issubclass(one, other), one is other, (one, other))

    def test_full_and_no_row_are_made_with_words(self):
        for refusal in (Full, NoRow):
            with self.assertRaises(refusal) as caught:
                raise refusal("some words")
            self.assertEqual(str(caught.exception), "some words")

    def test_out_of_order_has_row_and_place(self):
        for row, place in ((0, 1), (1, 0), (39, 59), (7, 7)):
            with self.assertRaises(MergeError) as caught:
                raise OutOfOrder(row, place)
            self.assertIs(caught.exception.__class__, OutOfOrder)
            self.told((caught.exception.row, caught.exception.place), (row, place))

    def test_bad_line_has_line(self):
        for line in (0, 1, 59):
            with self.assertRaises(MergeError) as caught:
                raise BadLine(line)
            self.assertIs(caught.exception.__class__, BadLine)
            self.told(caught.exception.line, line)

    def test_each_error_has_fields_of_its_own(self):
        one, other = OutOfOrder(1, 2), OutOfOrder(3, 4)
        self.told((one.row, one.place, other.row, other.place), (1, 2, 3, 4))
        first, second = BadLine(5), BadLine(6)
        self.told((first.line, second.line), (5, 6))

    def test_what_is_needed_must_be_handed_in(self):
        for make in (lambda: OutOfOrder(), lambda: OutOfOrder(1), lambda: OutOfOrder(1, 2, 3),
                     lambda: BadLine(), lambda: BadLine(1, 2)):
            with self.assertRaises(TypeError):
                make()
