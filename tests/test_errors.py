import unittest

from ringpop import errors

NAMES = (
    "NoNet", "NoTree", "NoPiles", "NoRing", "NoPlace", "NoNumber",
    "NoArrow", "MakesRing", "RanOut", "TooGreat", "NoText",
)


class TestErrors(unittest.TestCase):
    def test_ring_error_stands_right_under_value_error(self):
        self.assertEqual(errors.RingError.__bases__, (ValueError,))

    def test_each_refusal_is_there_and_none_stands_under_another(self):
        kinds = [getattr(errors, name) for name in NAMES]
        self.assertEqual(len(set(kinds)), 11)
        for kind in kinds:
            self.assertTrue(issubclass(kind, errors.RingError))
            above = [other for other in kinds if other is not kind and issubclass(kind, other)]
            self.assertEqual(above, [])
            self.assertFalse(issubclass(errors.RingError, kind))

    def test_plain_refusals_are_raised_with_words(self):
        for name in NAMES:
            if name not in ("MakesRing", "RanOut"):
                with self.assertRaises(errors.RingError) as caught:
                    raise getattr(errors, name)("words")
                self.assertEqual(str(caught.exception), "words")

    def test_makes_ring_has_its_ring(self):
        ring = [0, 2, 1]
        error = errors.MakesRing(ring)
        self.assertEqual(error.ring, [0, 2, 1])
        self.assertIsNot(error.ring, ring)
        error.ring.append(3)
        self.assertEqual(ring, [0, 2, 1])
        self.assertEqual(errors.MakesRing([4]).ring, [4])
        self.assertTrue(str(error))

    def test_ran_out_has_its_place(self):
        self.assertEqual(errors.RanOut(0).place, 0)
        self.assertEqual(errors.RanOut(7).place, 7)
        self.assertTrue(str(errors.RanOut(7)))


if __name__ == "__main__":
    unittest.main()
