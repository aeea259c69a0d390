import unittest

from meetwall import errors

NAMES = ("NoHouse", "NoStand", "NoHand", "NoDeed", "NoWall", "NoCount", "TooMany", "NoText", "NoRow", "NoName")


class ErrorsTest(unittest.TestCase):
    def test_wall_error_is_right_under_value_error(self):
        self.assertEqual(errors.WallError.__bases__, (ValueError,))

    def test_the_ten_others_are_right_under_wall_error(self):
        for name in NAMES:
            self.assertEqual(getattr(errors, name).__bases__, (errors.WallError,), name)

    def test_none_is_under_another_one(self):
        for name in NAMES:
            for other in NAMES:
                below = issubclass(getattr(errors, name), getattr(errors, other))
                self.assertEqual(below, name == other, (name, other))

    def test_there_are_no_more(self):
        classes = [name for name in dir(errors) if isinstance(getattr(errors, name), type)]
        self.assertEqual(sorted(classes), sorted(NAMES + ("WallError",)))

    def test_each_is_made_of_a_text(self):
        for name in NAMES + ("WallError",):
            with self.assertRaises(ValueError) as taken:
                raise getattr(errors, name)("some words")
            self.assertEqual(str(taken.exception), "some words")


if __name__ == "__main__":
    unittest.main()
