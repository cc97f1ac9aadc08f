import unittest

from beamtable import errors
from beamtable.errors import BeamError, NoFraction, Ring

NAMES = (
    "NoFraction", "NoCell", "NoTable", "NoPlace", "NoPass", "NoText",
    "NoMost", "NoStrength", "Loose", "Crossed", "NoRow", "Ring",
)


def refusal(name):
    kind = getattr(errors, name)
    return kind([(0, 0, 0)]) if name == "Ring" else kind("why")


class Classes(unittest.TestCase):
    def test_beam_error_is_a_value_error(self):
        self.assertEqual(BeamError.__mro__[1:], ValueError.__mro__)

    def test_each_is_under_beam_error_alone(self):
        for name in NAMES:
            kind = getattr(errors, name)
            with self.subTest(name):
                self.assertEqual(kind.__name__, name)
                self.assertEqual(kind.__mro__[1:], BeamError.__mro__)

    def test_none_is_under_another(self):
        for name in NAMES:
            for other in NAMES:
                with self.subTest(name, other=other):
                    self.assertEqual(isinstance(refusal(name), getattr(errors, other)), name == other)

    def test_each_is_raised_and_taken_by_all_its_names(self):
        for name in NAMES:
            for kind in (getattr(errors, name), BeamError, ValueError):
                with self.subTest(name, kind=kind):
                    with self.assertRaises(kind):
                        raise refusal(name)

    def test_a_refusal_keeps_its_words(self):
        self.assertEqual(str(NoFraction("why")), "why")


class RingField(unittest.TestCase):
    def test_it_tells_its_ring_as_a_list(self):
        told = Ring([(0, 0, 0), (1, 0, 3)]).ring
        self.assertIs(type(told), list)
        self.assertEqual(told, [(0, 0, 0), (1, 0, 3)])

    def test_an_empty_ring(self):
        self.assertEqual(Ring([]).ring, [])

    def test_the_list_handed_in_is_copied_and_not_changed(self):
        handed = [(0, 0, 0), (1, 0, 3)]
        error = Ring(handed)
        self.assertEqual(handed, [(0, 0, 0), (1, 0, 3)])
        handed.append((5, 5, 1))
        self.assertEqual(error.ring, [(0, 0, 0), (1, 0, 3)])
        error.ring.clear()
        self.assertEqual(handed, [(0, 0, 0), (1, 0, 3), (5, 5, 1)])

    def test_the_list_handed_in_is_kept_nowhere_else(self):
        handed = [(0, 0, 0)]
        error = Ring(handed)
        before = (repr(error), str(error))
        handed.append((5, 5, 1))
        self.assertEqual((repr(error), str(error)), before)

    def test_two_rings_of_one_list_are_apart(self):
        handed = [(0, 0, 0)]
        one = Ring(handed)
        other = Ring(handed)
        one.ring.append((1, 1, 1))
        self.assertEqual(other.ring, [(0, 0, 0)])

    def test_it_is_told_where_it_is_taken(self):
        with self.assertRaises(BeamError) as taken:
            raise Ring([(2, 1, 0)])
        self.assertEqual(taken.exception.ring, [(2, 1, 0)])


if __name__ == "__main__":
    unittest.main()
