import unittest

from shortpurse import errors


REFUSALS = ["NoFraction", "NoPurse", "NoClaims", "NoRule", "NoPlace", "NoDivision"]


class Refusals(unittest.TestCase):
    def test_any_refusal_stands_straight_under_value_error(self):
        self.assertEqual(errors.PurseError.__bases__, (ValueError,))

    def test_each_refusal_stands_straight_under_purse_error(self):
        for name in REFUSALS:
            with self.subTest(name):
                self.assertEqual(getattr(errors, name).__bases__, (errors.PurseError,))

    def test_no_refusal_is_another(self):
        classes = [getattr(errors, name) for name in REFUSALS]
        self.assertEqual(len(set(classes)), len(REFUSALS))
        for one in classes:
            for two in classes:
                self.assertEqual(issubclass(one, two), one is two)

    def test_no_rule_has_the_field_at(self):
        for at in [0, 1, 17, 300]:
            with self.assertRaises(errors.NoRule) as caught:
                raise errors.NoRule(at)
            self.assertEqual(caught.exception.at, at)

    def test_each_no_rule_keeps_its_own_at(self):
        one, two = errors.NoRule(3), errors.NoRule(5)
        self.assertEqual((one.at, two.at), (3, 5))


if __name__ == "__main__":
    unittest.main()
