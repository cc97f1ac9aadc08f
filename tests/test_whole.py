"""What holds over the whole program: one light, nothing of it missing, there and back, cut, changed, turned, seen."""

import unittest
from fractions import Fraction
from random import Random

from beamtable.cells import Empty, Filter, Half, Mirror, Wall
from beamtable.changes import cut_out, downstream, with_cell
from beamtable.errors import Crossed, Ring
from beamtable.flows import joined, light_of, lost_in, scaled, stepped, sum_of
from beamtable.lights import is_caught, outcome, reached, strengths
from beamtable.passes import all_passes, inlets, outlets
from beamtable.tables import Table
from beamtable.texts import read_table, shown_table
from beamtable.turns import seen_pass, seen_table, turned_pass, turned_table
from beamtable.ways import back_of
from tests.cases import Case
from tests.reckoned import Reckoned, random_lamps, random_strength, ringing_tables, sample_tables

ALL = (1, 1)
CELLS = (Empty(), Mirror(1), Mirror(3), Half(1, (1, 3)), Half(3, (2, 7)), Filter((2, 5)), Wall())


def tables():
    return sample_tables() + ringing_tables()


def light_or_ring(table, lamps):
    """A pair: the light and None, or None and the ring that the refusal tells."""
    try:
        return (strengths(table, lamps), None)
    except Ring as refusal:
        return (None, refusal.ring)


def free_passes(table):
    return [p for p in all_passes(table) if not is_caught(table, p)]


def strength_on(light, p):
    return dict(light).get(p, (0, 1))


def whole_of(pairs):
    return sum((Fraction(*strength) for _, strength in pairs), Fraction(0))


class OneLight(Case):
    def test_light_or_a_ring(self):
        random = Random(11)
        rings = 0
        for table in tables():
            reckoned = Reckoned(table)
            for _ in range(3):
                lamps = random_lamps(random, all_passes(table), 4)
                light, ring = light_or_ring(table, lamps)
                self.assertEqual(light is None, any(reckoned.caught(p) for p, _ in lamps))
                if light is None:
                    rings += 1
                    self.assertTrue(all(reckoned.caught(p) for p in ring))
                else:
                    self.assertEqual(joined(light_of(table, lamps), stepped(table, light)), light)
                    self.assertEqual([p for p, _ in light], reached(table, lamps))
        self.assertGreater(rings, 20)

    def test_it_is_what_steps_come_to(self):
        # Step by step the light comes nearer from below, and never goes beyond.
        table = read_table("a\\\n\\b\n\na half / 1/3\nb half / 1/4")
        lamps = [((0, 0, 0), ALL), ((1, 1, 2), (1, 2))]
        given = light_of(table, lamps)
        light = dict(strengths(table, lamps))
        sum_so_far = given
        for _ in range(60):
            sum_so_far = joined(given, stepped(table, sum_so_far))
        for p, strength in sum_so_far:
            rest = Fraction(*light[p]) - Fraction(*strength)
            self.assertGreaterEqual(rest, 0)
            self.assertLess(rest, Fraction(1, 10 ** 9))
        self.assertEqual([p for p, _ in sum_so_far], sorted(light))


class NothingMissing(Case):
    def test_what_the_lamps_give_comes_out_or_is_swallowed(self):
        random = Random(12)
        for table in tables():
            for most in (1, 5, 30):
                lamps = random_lamps(random, free_passes(table), most)
                out, lost = outcome(table, lamps)
                self.assertEqual(whole_of(lamps), whole_of(out) + whole_of(lost))
                self.assertEqual(Fraction(*lost_in(table, strengths(table, lamps))), whole_of(lost))

    def test_from_each_pass_alone(self):
        for table in tables()[::4]:
            for p in free_passes(table):
                out, lost = outcome(table, [(p, (7, 3))])
                self.assertEqual(whole_of(out) + whole_of(lost), Fraction(7, 3))


class TwoListsOfLamps(Case):
    def test_the_sum_of_both(self):
        random = Random(13)
        for table in tables():
            one = random_lamps(random, free_passes(table), 5)
            other = random_lamps(random, free_passes(table), 5)
            both = joined(strengths(table, one), strengths(table, other))
            self.assertEqual(strengths(table, one + other), both)
            self.assertEqual(strengths(table, other + one), both)
            self.assertEqual(outcome(table, one + other)[0], joined(outcome(table, one)[0], outcome(table, other)[0]))

    def test_refused_just_where_one_of_them_is(self):
        random = Random(14)
        found = {}
        for table in tables():
            for _ in range(3):
                one = random_lamps(random, all_passes(table), 2)
                other = random_lamps(random, all_passes(table), 2)
                refused = [light_or_ring(table, lamps)[0] is None for lamps in (one, other, one + other)]
                self.assertEqual(refused[2], refused[0] or refused[1])
                found[tuple(refused)] = True
        self.assertEqual(len(found), 4)

    def test_so_many_times_as_strong(self):
        random = Random(15)
        for table in tables()[::3]:
            lamps = random_lamps(random, free_passes(table), 5)
            by = random_strength(random)
            self.assertEqual(strengths(table, scaled(lamps, by)), scaled(strengths(table, lamps), by))


class Brightest(Case):
    def test_no_pass_is_brighter_than_the_brightest_lamp(self):
        random = Random(16)
        for table in tables():
            for p in inlets(table):
                self.assertEqual(max(Fraction(*strength) for _, strength in strengths(table, [(p, ALL)])), 1)
            some = random.sample(inlets(table), random.randrange(1, len(inlets(table)) + 1))
            for passes in (some, inlets(table)):
                lamps = [(p, random_strength(random)) for p in passes]
                most = max(Fraction(*strength) for _, strength in lamps)
                self.assertLessEqual(max(Fraction(*strength) for _, strength in strengths(table, lamps)), most)

    def test_inlets_never_come_into_a_ring(self):
        for table in tables():
            self.assertFalse([p for p in inlets(table) + outlets(table) if is_caught(table, p)])

    def test_light_from_all_sides_is_as_strong_everywhere(self):
        # Where nothing is swallowed, each pass that is reached has just as much as each inlet.
        table = read_table("a\\.\n\\b/\n..c\n\na half / 1/3\nb half / 1/4\nc half \\ 4/5")
        light = strengths(table, [(p, (3, 2)) for p in inlets(table)])
        self.assertEqual({strength for _, strength in light}, {(3, 2)})
        self.assertEqual(sum_of(light), (3 * len(light) // 2, 1))


class ThereAndBack(Case):
    def test_every_two_passes(self):
        for table in tables()[::3]:
            lights = {}
            for p in free_passes(table):
                lights[p] = dict(strengths(table, [(p, ALL)]))
            for one, light in lights.items():
                for other, strength in light.items():
                    back = lights.get(back_of(other))
                    if back is not None:
                        self.assertEqual(back.get(back_of(one)), strength)

    def test_a_pass_is_caught_as_its_back_is(self):
        for table in tables():
            for p in all_passes(table):
                self.assertEqual(is_caught(table, back_of(p)), is_caught(table, p))


class PartsCutOut(Case):
    def check_part(self, table, lamps, x, y, width, height):
        light = dict(strengths(table, lamps))
        part = cut_out(table, x, y, width, height)
        rim = {(p[0] + x, p[1] + y, p[2]) for p in inlets(part)}
        own = {(p[0] + x, p[1] + y, p[2]) for p in all_passes(part)}
        given = [(p, light[p]) for p in sorted(rim) if p in light]
        given += [(p, strength) for p, strength in lamps if p in own - rim]
        there = [((p[0] - x, p[1] - y, p[2]), strength) for p, strength in given]
        asked = [((p[0] - x, p[1] - y, p[2]), light[p]) for p in sorted(light) if p in own]
        self.assertEqual(strengths(part, there), asked)

    def test_every_part(self):
        random = Random(17)
        crossed = whole = 0
        for table in tables()[::2]:
            lamps = random_lamps(random, free_passes(table), 6)
            for _ in range(6):
                x = random.randrange(table.width())
                y = random.randrange(table.height())
                size = (random.randrange(table.width() - x) + 1, random.randrange(table.height() - y) + 1)
                try:
                    self.check_part(table, lamps, x, y, *size)
                    whole += 1
                except Crossed:
                    crossed += 1
            self.check_part(table, lamps, 0, 0, table.width(), table.height())
        self.assertGreater(whole, 100)
        self.assertGreater(crossed, 20)


class AnotherCell(Case):
    def test_light_differs_only_downstream(self):
        random = Random(18)
        differing = 0
        for table in tables():
            lamps = random_lamps(random, all_passes(table), 5)
            before, ring = light_or_ring(table, lamps)
            x = random.randrange(table.width())
            y = random.randrange(table.height())
            if ring is not None or table.other_end(x, y) is not None:
                continue
            for cell in CELLS:
                changed = with_cell(table, x, y, cell)
                after, ring = light_or_ring(changed, lamps)
                if ring is None:
                    either = set(downstream(table, x, y)) | set(downstream(changed, x, y))
                    for p in all_passes(table):
                        if strength_on(before, p) != strength_on(after, p):
                            self.assertIn(p, either)
                            differing += 1
        self.assertGreater(differing, 200)


class TurnedAndSeen(Case):
    def test_the_light_goes_with_the_table(self):
        random = Random(19)
        rings = 0
        for table in tables():
            lamps = random_lamps(random, all_passes(table), 4)
            light, ring = light_or_ring(table, lamps)
            for make, move in ((turned_table, turned_pass), (seen_table, seen_pass)):
                moved = [(move(table, p), strength) for p, strength in lamps]
                other, other_ring = light_or_ring(make(table), moved)
                if light is None:
                    rings += 1
                    self.assertIsNone(other)
                else:
                    self.assertEqual(other, sorted((move(table, p), strength) for p, strength in light))
                    lost = sorted(strength for _, strength in outcome(table, lamps)[1])
                    self.assertEqual(sorted(strength for _, strength in outcome(make(table), moved)[1]), lost)
        self.assertGreater(rings, 10)

    def test_a_ring_goes_with_the_table(self):
        for table in ringing_tables():
            for p in [p for p in all_passes(table) if is_caught(table, p)][::7]:
                ring = light_or_ring(table, [(p, ALL)])[1]
                for make, move in ((turned_table, turned_pass), (seen_table, seen_pass)):
                    there = light_or_ring(make(table), [(move(table, p), ALL)])[1]
                    self.assertEqual(there, sorted(move(table, member) for member in ring))


class NothingChanges(Case):
    def test_tables_stay_whatever_is_asked(self):
        random = Random(20)
        for table in tables()[::5]:
            rows = table.rows()
            text = shown_table(table)
            lamps = random_lamps(random, all_passes(table), 5)
            kept = list(lamps)
            light_or_ring(table, lamps)
            reached(table, lamps)
            turned_table(table)
            seen_table(table)
            downstream(table, 0, 0)
            cut_out(table, 0, 0, table.width(), table.height())
            with_cell(table, 0, 0, table.cell(0, 0))
            self.assertEqual(lamps, kept)
            self.assertEqual(table.rows(), rows)
            self.assertEqual(shown_table(table), text)

    def test_a_table_read_again_has_the_same_light(self):
        random = Random(21)
        for table in tables()[::3]:
            lamps = random_lamps(random, all_passes(table), 5)
            self.assertEqual(light_or_ring(read_table(shown_table(table)), lamps), light_or_ring(table, lamps))

    def test_lists_of_one_refusal_are_apart(self):
        table = Table([[Mirror(1), Mirror(3)], [Mirror(3), Mirror(1)]])
        one = light_or_ring(table, [((1, 0, 0), ALL)])[1]
        kept = list(one)
        one.clear()
        self.assertEqual(light_or_ring(table, [((1, 0, 0), ALL)])[1], kept)


if __name__ == "__main__":
    unittest.main()
