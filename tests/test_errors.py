import unittest

from rootspan import errors

BARE = ["NoRatio", "ByNought", "NoPart", "TooGreat", "BelowNought", "NoRow"]
TELLING = {"NoRoot": ("many", 3), "TooHigh": ("degree", 12), "NoText": ("at", 0), "NoName": ("name", "abc")}


class Errors(unittest.TestCase):
    def test_base(self):
        self.assertEqual(errors.RootError.__bases__, (ValueError,))

    def test_every_class_stands_under_the_base_alone(self):
        for name in BARE + list(TELLING):
            with self.subTest(name):
                self.assertEqual(getattr(errors, name).__bases__, (errors.RootError,))

    def test_none_stands_under_another(self):
        every = [getattr(errors, name) for name in BARE + list(TELLING)]
        for one in every:
            self.assertTrue(issubclass(one, ValueError))
            for other in every:
                if one is not other:
                    self.assertFalse(issubclass(one, other), (one, other))

    def test_made_of_nothing(self):
        for name in BARE:
            kind = getattr(errors, name)
            with self.subTest(name):
                with self.assertRaises(kind):
                    raise kind()

    def test_fields(self):
        for name, (field, value) in TELLING.items():
            kind = getattr(errors, name)
            with self.subTest(name):
                with self.assertRaises(kind) as caught:
                    raise kind(value)
                self.assertEqual(getattr(caught.exception, field), value)

    def test_fields_of_different_makings(self):
        self.assertEqual([errors.NoRoot(many).many for many in (0, 2, 40)], [0, 2, 40])
        self.assertEqual([errors.TooHigh(degree).degree for degree in (9, 64)], [9, 64])
        self.assertEqual([errors.NoText(at).at for at in (0, 200)], [0, 200])
        self.assertEqual([errors.NoName(name).name for name in ("", "x")], ["", "x"])


if __name__ == "__main__":
    unittest.main()
