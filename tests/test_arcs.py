"""Arcs, ways, rings and numbers: what each function accepts and refuses ([1.1], stage 1)."""

import copy
import unittest

from heardlate.base import arcs as module
from heardlate.base.arcs import (
    MAX_ARCS, closed_arcs, distances, is_arcs, is_numbers, is_numbers_paper, is_ring, is_way, numbers_paper,
    shortest_way,
)
from heardlate.errors import InvalidArcs, Refuted, UnknownName
from tests import arc_answers
from tests.samples import FORTY, ODD, Case

SOME = (("a", "b", 3), ("b", "c", -5), ("c", "a", 2), ("a", "c", -1))
RINGED = (("a", "b", 1), ("b", "a", -2), ("b", "c", 0), ("d", "a", 0), ("e", "e", 0), ("c", "f", 1))


def letters(number):
    """A name for a number below 26 ** 3."""
    return "".join("abcdefghijklmnopqrstuvwxyz"[number // 26 ** place % 26] for place in (2, 1, 0))


def chain(many, most=1):
    return tuple((letters(number), letters(number + 1), most) for number in range(many))


class AreArcs(Case):
    def test_limit(self):
        self.assertEqual(MAX_ARCS, 400)
        self.assertIs(is_arcs(chain(400)), True)
        self.assertIs(is_arcs(chain(401)), False)
        self.assertIs(is_arcs((("a", "a", 0),) * 400), True)
        self.assertIs(is_arcs((("a", "a", 0),) * 401), False)

    def test_arcs(self):
        for value in (
            (), SOME, RINGED, (("a", "a", 0),), (("a", "b", 0),) * 2, (("start", "abcdefgh", FORTY),),
            (("a", "b", -FORTY),), (("a", "b", 1), ("a", "b", 2)),
        ):
            with self.subTest(value):
                self.assertIs(is_arcs(value), True)

    def test_no_arcs(self):
        for arc in (
            (), ("a",), ("a", "b"), ("a", "b", 1, 1), ["a", "b", 1], ("a", "b", True), ("a", "b", False), "abc",
            ("a", "b", None), ("a", "b", "1"), ("a", "b", (1,)), ("", "b", 1), ("a", "", 1), ("abcdefghi", "b", 1),
            ("a", "abcdefghi", 1), (1, "b", 1), ("a", 1, 1), (["a"], "b", 1), ("a", ["b"], 1), (None, "b", 1),
            ("A", "b", 1), ("a", "B", 1), {"a": 1, "b": 1, "c": 1}, None, 1, True, (("a", "b", 1),),
        ):
            with self.subTest(arc):
                self.assertIs(is_arcs((arc,)), False)
                self.assertIs(is_arcs((("a", "b", 1), arc)), False)
                self.assertIs(is_arcs((arc, ("a", "b", 1))), False)
        self.assertIs(is_arcs([("a", "b", 1)]), False)
        self.assertIs(is_arcs({("a", "b", 1): 1}), False)
        for value in ODD:
            if value != ():
                with self.subTest(repr(value)):
                    self.assertIs(is_arcs(value), False)


class Ways(Case):
    def test_ways(self):
        for way, source, target in (
            ((), "a", "a"), ((), "c", "c"), ((0,), "a", "b"), ((3,), "a", "c"), ((0, 1), "a", "c"), ((0, 1, 2), "a", "a"),
            ((2, 3, 2, 3), "c", "c"), ((1, 2, 0, 1, 2, 0, 1), "b", "c"), ((2,), "c", "a"),
        ):
            with self.subTest(way):
                self.assertIs(is_way(SOME, way, source=source, target=target), True)
                self.assertIs(is_way(SOME, way, target=target, source=source), True)

    def test_no_ways(self):
        for way, source, target in (
            ((), "a", "b"), ((), "c", "a"), ((0,), "a", "a"), ((0,), "b", "b"), ((0,), "b", "a"), ((0, 2), "a", "a"),
            ((1, 0), "b", "b"), ((0, 3), "a", "c"), ((4,), "a", "b"), ((0, 4), "a", "b"), ((-1,), "a", "c"),
            ((0, 1, 2), "a", "c"), ((0, 1, 2), "b", "a"), ((0, 0), "a", "b"), ((FORTY,), "a", "b"), ((-4,), "a", "b"),
            ((False,), "a", "b"), ((True,), "b", "c"), ((0, True), "a", "c"), ([0], "a", "b"), ([], "a", "a"),
            ((None,), "a", "b"), (("0",), "a", "b"), (((0,),), "a", "b"), ({0: 0}, "a", "b"), ({}, "a", "a"),
            ("", "a", "a"), (None, "a", "a"), (0, "a", "b"), (("a", "b"), "a", "b"), (([],), "a", "b"),
        ):
            with self.subTest(way):
                self.assertIs(is_way(SOME, way, source=source, target=target), False)

    def test_every_value_is_accepted(self):
        for value in ODD:
            with self.subTest(repr(value)):
                self.assertIs(is_way(SOME, value, source="a", target="a"), value == ())

    def test_against_the_definition(self):
        for arcs in arc_answers.some_arcs(25, 1):
            arcs = arcs[:4]
            names = arc_answers.names_of(arcs)
            for way in arc_answers.tiny_ways(arcs, 3):
                for source in names:
                    for target in names:
                        begins = not way or arcs[way[0]][0] == source
                        ends = arc_answers.end_of(arcs, way, source) == target
                        expected = begins and ends and arc_answers.is_joined(arcs, way)
                        self.assertIs(is_way(arcs, way, source=source, target=target), expected)

    def test_errors_in_their_order(self):
        for value in ODD:
            if value != ():
                self.refuses(InvalidArcs, is_way, value, (), source="a", target="a")
                self.refuses(InvalidArcs, is_way, value, None, source="a", target="a")
            if value not in ("a", "b", "c"):
                self.keeps(UnknownName, "name", value, is_way, SOME, (), source=value, target="a")
                self.keeps(UnknownName, "name", value, is_way, SOME, (), source="a", target=value)
        self.refuses(InvalidArcs, is_way, [SOME], (), source="z", target="z")
        self.keeps(UnknownName, "name", "x", is_way, SOME, None, source="x", target="y")
        self.keeps(UnknownName, "name", "y", is_way, SOME, None, source="a", target="y")
        self.keeps(UnknownName, "name", "a", is_way, (), (), source="a", target="a")

    def test_source_and_target_are_passed_by_keyword(self):
        self.assertRaises(TypeError, is_way, SOME, (), "a", "a")
        self.assertRaises(TypeError, is_way, SOME, ())


class Rings(Case):
    def test_rings(self):
        for ring in ((1, 0), (0, 1), (0, 1, 0, 1), (1, 0, 1, 0, 1, 0)):
            self.assertIs(is_ring(RINGED, ring), True)
        self.assertIs(is_ring((("a", "a", -1),), (0,)), True)
        self.assertIs(is_ring((("a", "a", -1),), (0, 0)), True)
        self.assertIs(is_ring((("a", "b", FORTY), ("b", "a", -FORTY), ("a", "a", -1)), (0, 1, 2)), True)

    def test_no_rings(self):
        for value in (
            (), (0,), (1,), (4,), (0, 1, 2), (2,), (3, 0, 1), (1, 0, 4), (6,), (-5, -6), [1, 0], (True, False), (True, 0),
            (1, False), (1, None), "10", ("1", "0"), None, 1, ((1, 0),), {1: 0, 0: 1},
        ):
            with self.subTest(value):
                self.assertIs(is_ring(RINGED, value), False)
        self.assertIs(is_ring((("a", "b", FORTY), ("b", "a", -FORTY)), (0, 1)), False)
        self.assertIs(is_ring(SOME, (0, 1, 2)), False)
        self.assertIs(is_ring((("a", "a", 0),), (0,)), False)
        self.assertIs(is_ring((), ()), False)

    def test_every_value_is_accepted(self):
        for value in ODD:
            with self.subTest(repr(value)):
                self.assertIs(is_ring(SOME, value), False)
        for value in ODD:
            if value != ():
                self.refuses(InvalidArcs, is_ring, value, ())
                self.refuses(InvalidArcs, is_ring, value, None)

    def test_against_the_definition(self):
        for arcs in arc_answers.some_arcs(40, 2):
            arcs = arcs[:4]
            for way in arc_answers.tiny_ways(arcs, 4):
                self.assertIs(is_ring(arcs, way), arc_answers.is_ring(arcs, way))


class Numbers(Case):
    def test_numbers(self):
        for value in ({"a": 0, "b": 3, "c": -2}, {"a": 0, "b": 3, "c": -2}, {"c": -102, "b": -97, "a": -100}):
            self.assertIs(is_numbers(SOME, value), True)
        self.assertIs(is_numbers((), {}), True)
        self.assertIs(is_numbers((("a", "b", -FORTY),), {"b": -FORTY, "a": 0}), True)
        self.assertIs(is_numbers((("a", "a", 0),), {"a": FORTY}), True)

    def test_no_numbers(self):
        for value in (
            {}, {"a": 0, "b": 3}, {"a": 0, "b": 3, "c": -2, "d": 0}, {"a": 0, "b": 4, "c": -2}, {"a": 0, "b": 3, "c": -1},
            {"a": 1, "b": 3, "c": -2}, {"a": False, "b": 3, "c": -2}, {"a": 0, "b": "3", "c": -2},
            {"a": 0, "b": None, "c": -2}, {"a": 0, "b": 3, 3: -2}, {"a": 0, "b": 3, None: -2}, {"a": 0, "b": 3, "d": -2},
            {"a": 0, "b": [3], "c": -2}, {"a": 0, "b": (3,), "c": -2}, (("a", 0), ("b", 3), ("c", -2)), (0, 3, -2),
        ):
            with self.subTest(value):
                self.assertIs(is_numbers(SOME, value), False)
        self.assertIs(is_numbers((), {"a": 0}), False)
        self.assertIs(is_numbers((), ()), False)
        self.assertIs(is_numbers((("a", "b", 1),), {"a": True, "b": 1}), False)
        self.assertIs(is_numbers((("a", "b", 1),), {"a": 0, "b": True}), False)
        self.assertIs(is_numbers((("a", "b", -FORTY),), {"b": 1 - FORTY, "a": 0}), False)
        self.assertIs(is_numbers((("a", "a", -1),), {"a": 0}), False)

    def test_every_value_is_accepted(self):
        for value in ODD:
            with self.subTest(repr(value)):
                self.assertIs(is_numbers(SOME, value), False)
                self.assertIs(is_numbers((), value), value == {})
        for value in ODD:
            if value != ():
                self.refuses(InvalidArcs, is_numbers, value, {})
                self.refuses(InvalidArcs, is_numbers, value, None)

    def test_every_arc_counts(self):
        for number in range(400):
            arcs = chain(400, 1)
            arcs = arcs[:number] + ((arcs[number][0], arcs[number][1], -1),) + arcs[number + 1:]
            if number % 57 == 0 or number == 399:
                self.assertIs(is_numbers(arcs, {letters(at): 0 for at in range(401)}), False)
        self.assertIs(is_numbers(chain(400, 0), {letters(at): 0 for at in range(401)}), True)


class Papers(Case):
    def test_papers(self):
        word, numbers = numbers_paper(SOME)
        self.assertEqual(word, "numbers")
        self.assertIs(is_numbers_paper(SOME, (word, numbers)), True)
        self.assertIs(is_numbers_paper(SOME, ("numbers", {"c": -2, "b": 3, "a": 0})), True)
        self.assertIs(is_numbers_paper(RINGED, ("ring", (1, 0, 1, 0))), True)
        self.assertIs(is_numbers_paper((), ("numbers", {})), True)
        self.assertEqual(numbers_paper(()), ("numbers", {}))

    def test_no_papers(self):
        numbers = {"a": 0, "b": 3, "c": -2}
        for value in (
            numbers, ("numbers",), ("numbers", numbers, 0), ["numbers", numbers], ("ring", numbers), ("number", numbers),
            ("numbers", {"a": 0, "b": 4, "c": -2}), ("ring", (0, 1, 2)), ("ring", ()), (numbers, "numbers"),
            ("numbers", ()), (None, numbers), (["numbers"], numbers), ("Numbers", numbers), (True, numbers), "numbers",
        ):
            with self.subTest(value):
                self.assertIs(is_numbers_paper(SOME, value), False)
        for value in (
            (1, 0), ("ring",), ("ring", (1, 0), 0), ["ring", (1, 0)], ("ring", [1, 0]), ("numbers", (1, 0)),
            ("ring", (True, False)), ("ring", (0,)), ("ring", ()), ("", (1, 0)), ("rings", (1, 0)), ((1, 0), "ring"),
        ):
            with self.subTest(value):
                self.assertIs(is_numbers_paper(RINGED, value), False)
        self.assertIs(is_numbers_paper((), ("numbers", ())), False)
        self.assertIs(is_numbers_paper((), ("ring", ())), False)

    def test_every_value_is_accepted(self):
        for value in ODD:
            with self.subTest(repr(value)):
                self.assertIs(is_numbers_paper(SOME, value), False)
                self.assertIs(is_numbers_paper((), value), value == ("numbers", {}))

    def test_errors(self):
        for value in ODD:
            if value != ():
                self.refuses(InvalidArcs, numbers_paper, value)
                for paper in (("numbers", {}), ("ring", (0,)), ("other", ()), (), None, value):
                    self.refuses(InvalidArcs, is_numbers_paper, value, paper)
                self.refuses(InvalidArcs, closed_arcs, value)

    def test_exactly_one_kind_is_found(self):
        kinds = {"numbers": 0, "ring": 0}
        for arcs in arc_answers.some_arcs(400, 3):
            paper = numbers_paper(arcs)
            self.assertIs(type(paper), tuple)
            self.assertEqual(len(paper), 2)
            ringed = any(arc_answers.simple_rings_from(arcs, name) for name in arc_answers.names_of(arcs))
            self.assertEqual(paper[0], "ring" if ringed else "numbers", arcs)
            self.assertIs(is_numbers_paper(arcs, paper), True)
            if ringed:
                self.assertTrue(arc_answers.is_ring(arcs, paper[1]), arcs)
            else:
                self.assertEqual(list(paper[1]), arc_answers.names_of(arcs))
                self.assertTrue(all(type(number) is int for number in paper[1].values()))
                self.assertTrue(all(paper[1][second] <= paper[1][first] + most for first, second, most in arcs))
            kinds[paper[0]] += 1
        self.assertGreater(min(kinds.values()), 50)


class Sums(Case):
    def test_examples(self):
        self.assertEqual(distances(SOME, "a"), {"a": 0, "b": 3, "c": -2})
        self.assertEqual(shortest_way(SOME, "a", "c"), (0, 1))
        self.assertEqual(closed_arcs(SOME)[("b", "a")], -3)
        self.assertEqual(numbers_paper((("a", "b", 1), ("b", "a", -2)))[0], "ring")
        self.assertIs(is_numbers(SOME, {"a": 0, "b": 3, "c": -2}), True)

    def test_source_and_names_that_are_not_reached(self):
        arcs = (("a", "b", 2), ("c", "a", 1), ("d", "d", 0))
        self.assertEqual(distances(arcs, "a"), {"a": 0, "b": 2})
        self.assertEqual(distances(arcs, "b"), {"b": 0})
        self.assertEqual(distances(arcs, "c"), {"a": 1, "b": 3, "c": 0})
        self.assertEqual(distances(arcs, "d"), {"d": 0})
        self.assertIsNone(shortest_way(arcs, "a", "c"))
        self.assertIsNone(shortest_way(arcs, "b", "a"))
        self.assertEqual(shortest_way(arcs, "b", "b"), ())
        self.assertEqual(shortest_way(arcs, "d", "d"), ())

    def test_fewer_arcs_count_before_smaller_indices(self):
        arcs = (("a", "b", 1), ("b", "c", 1), ("a", "c", 2), ("a", "c", 2))
        self.assertEqual(shortest_way(arcs, "a", "c"), (2,))
        arcs = (("a", "b", 1), ("b", "c", 0), ("a", "c", 2), ("a", "c", 2))
        self.assertEqual(shortest_way(arcs, "a", "c"), (0, 1))

    def test_the_smallest_tuple_of_the_same_length(self):
        arcs = (("c", "d", 1), ("a", "c", 1), ("a", "b", 0), ("b", "d", 2), ("b", "d", 2))
        self.assertEqual(shortest_way(arcs, "a", "d"), (1, 0))
        arcs = (("c", "d", 1), ("a", "b", 0), ("a", "c", 1), ("b", "d", 2), ("b", "d", 2))
        self.assertEqual(shortest_way(arcs, "a", "d"), (1, 3))
        self.assertEqual(shortest_way((("a", "b", 1), ("a", "b", 1)), "a", "b"), (0,))

    def test_arcs_from_a_name_to_itself(self):
        arcs = (("a", "a", 0), ("a", "b", 1), ("b", "b", 5))
        self.assertEqual(shortest_way(arcs, "a", "a"), ())
        self.assertEqual(shortest_way(arcs, "a", "b"), (1,))
        self.assertEqual(closed_arcs(arcs), {("a", "a"): 0, ("a", "b"): 1, ("b", "b"): 0})

    def test_ways_of_sum_zero_around(self):
        arcs = (("a", "b", 1), ("b", "a", -1), ("b", "c", 0))
        self.assertEqual(shortest_way(arcs, "a", "c"), (0, 2))
        self.assertEqual(shortest_way(arcs, "a", "a"), ())
        self.assertEqual(distances(arcs, "b"), {"a": -1, "b": 0, "c": 0})

    def test_rings_that_the_source_does_not_reach(self):
        self.assertEqual(distances(RINGED, "c"), {"c": 0, "f": 1})
        self.assertEqual(shortest_way(RINGED, "c", "f"), (5,))
        self.assertIsNone(shortest_way(RINGED, "c", "a"))
        self.assertEqual(distances(RINGED, "e"), {"e": 0})

    def test_rings_that_the_source_reaches(self):
        for source in ("a", "b", "d"):
            error = self.refuses(Refuted, distances, RINGED, source)
            self.assertTrue(arc_answers.is_ring(RINGED, error.paper))
            for target in "abcdef":
                error = self.refuses(Refuted, shortest_way, RINGED, source, target)
                self.assertTrue(arc_answers.is_ring(RINGED, error.paper))
        error = self.refuses(Refuted, closed_arcs, RINGED)
        self.assertTrue(arc_answers.is_ring(RINGED, error.paper))
        lone = (("a", "a", -1),)
        self.assertTrue(arc_answers.is_ring(lone, self.refuses(Refuted, distances, lone, "a").paper))
        self.assertTrue(arc_answers.is_ring(lone, self.refuses(Refuted, shortest_way, lone, "a", "a").paper))

    def test_integers_of_forty_digits(self):
        arcs = (("a", "b", FORTY), ("b", "c", FORTY), ("c", "a", -FORTY), ("c", "d", -FORTY), ("a", "d", FORTY + 1 - 2))
        self.assertEqual(distances(arcs, "a"), {"a": 0, "b": FORTY, "c": 2 * FORTY, "d": FORTY - 1})
        self.assertEqual(shortest_way(arcs, "a", "d"), (4,))
        self.assertEqual(closed_arcs(arcs)[("c", "b")], 0)
        arcs = (("a", "b", FORTY), ("b", "c", -FORTY), ("c", "a", -1))
        self.assertTrue(arc_answers.is_ring(arcs, numbers_paper(arcs)[1]))
        arcs = arcs[:2] + (("c", "a", 0),)
        self.assertEqual(numbers_paper(arcs)[0], "numbers")

    def test_errors_in_their_order(self):
        for value in ODD:
            if value != ():
                self.refuses(InvalidArcs, distances, value, "a")
                self.refuses(InvalidArcs, shortest_way, value, "a", "a")
            self.keeps(UnknownName, "name", value, distances, SOME, value)
            self.keeps(UnknownName, "name", value, shortest_way, SOME, value, "a")
            self.keeps(UnknownName, "name", value, shortest_way, SOME, "a", value)
        self.refuses(InvalidArcs, distances, list(SOME), "z")
        self.refuses(InvalidArcs, shortest_way, list(SOME), "z", "z")
        self.refuses(InvalidArcs, distances, RINGED + (("a", "b", True),), "a")
        self.refuses(InvalidArcs, closed_arcs, RINGED + (("a", "b", True),))
        self.refuses(InvalidArcs, closed_arcs, RINGED * 67)
        self.keeps(UnknownName, "name", "x", shortest_way, SOME, "x", "y")
        self.keeps(UnknownName, "name", "y", shortest_way, SOME, "a", "y")
        self.keeps(UnknownName, "name", "x", shortest_way, RINGED, "a", "x")
        self.keeps(UnknownName, "name", "x", shortest_way, RINGED, "x", "a")
        self.keeps(UnknownName, "name", "x", distances, RINGED, "x")
        self.keeps(UnknownName, "name", "a", distances, (), "a")
        self.keeps(UnknownName, "name", "a", shortest_way, (), "a", "a")
        self.assertEqual(closed_arcs(()), {})

    def test_against_all_ways(self):
        seen = {"ring": 0, "none": 0, "way": 0}
        for arcs in arc_answers.some_arcs(300, 4):
            names = arc_answers.names_of(arcs)
            for source in names:
                if arc_answers.simple_rings_from(arcs, source):
                    error = self.refuses(Refuted, distances, arcs, source)
                    self.assertTrue(arc_answers.is_ring(arcs, error.paper), arcs)
                    error = self.refuses(Refuted, shortest_way, arcs, source, names[0])
                    self.assertTrue(arc_answers.is_ring(arcs, error.paper), arcs)
                    seen["ring"] += 1
                    continue
                sums = distances(arcs, source)
                self.assertEqual(sums, arc_answers.least_sums(arcs, source), arcs)
                self.assertEqual(list(sums), sorted(sums))
                for target in names:
                    way = shortest_way(arcs, source, target)
                    self.assertEqual(way, arc_answers.best_way(arcs, source, target), (arcs, source, target))
                    seen["none" if way is None else "way"] += 1
        self.assertGreater(min(seen.values()), 100)

    def test_closed_arcs_against_all_ways(self):
        closed_ones = 0
        for arcs in arc_answers.some_arcs(300, 5):
            names = arc_answers.names_of(arcs)
            if any(arc_answers.simple_rings_from(arcs, name) for name in names):
                error = self.refuses(Refuted, closed_arcs, arcs)
                self.assertTrue(arc_answers.is_ring(arcs, error.paper), arcs)
                continue
            closed = closed_arcs(arcs)
            expected = {
                (source, target): most
                for source in names
                for target, most in arc_answers.least_sums(arcs, source).items()
            }
            self.assertEqual(closed, expected, arcs)
            self.assertEqual(list(closed), sorted(closed))
            closed_ones += 1
        self.assertGreater(closed_ones, 80)


class ManyArcs(Case):
    def test_a_chain_in_both_orders(self):
        for arcs in (chain(400), chain(400)[::-1]):
            first, last = letters(0), letters(400)
            self.assertEqual(distances(arcs, first), {letters(at): at for at in range(401)})
            self.assertEqual(len(shortest_way(arcs, first, last)), 400)
            self.assertTrue(is_way(arcs, shortest_way(arcs, first, last), source=first, target=last))
            self.assertEqual(numbers_paper(arcs)[0], "numbers")
            closed = closed_arcs(arcs)
            self.assertEqual(len(closed), 401 * 402 // 2)
            self.assertEqual(closed[(first, last)], 400)

    def test_a_ring_through_all_arcs_in_both_orders(self):
        around = chain(399, 0) + ((letters(399), letters(0), -1),)
        for arcs in (around, around[::-1]):
            self.assertTrue(arc_answers.is_ring(arcs, numbers_paper(arcs)[1]))
            self.assertTrue(arc_answers.is_ring(arcs, self.refuses(Refuted, distances, arcs, letters(200)).paper))
            self.assertTrue(arc_answers.is_ring(arcs, self.refuses(Refuted, closed_arcs, arcs).paper))
        still = chain(399, 0) + ((letters(399), letters(0), 0),)
        self.assertEqual(len(closed_arcs(still)), 160000)

    def test_a_ring_behind_a_long_way(self):
        arcs = (chain(399) + ((letters(399), letters(397), -3),))[::-1]
        for source in (letters(0), letters(399)):
            self.assertTrue(arc_answers.is_ring(arcs, self.refuses(Refuted, distances, arcs, source).paper))
        arcs = (chain(399) + ((letters(399), letters(397), -2),))[::-1]
        self.assertEqual(distances(arcs, letters(0))[letters(399)], 399)

    def test_401_arcs_are_none(self):
        for call, more in (
            (distances, (letters(0),)), (shortest_way, (letters(0), letters(1))), (numbers_paper, ()), (closed_arcs, ()),
            (is_ring, ((0,),)), (is_numbers, ({},)), (is_numbers_paper, (("numbers", {}),)),
        ):
            self.refuses(InvalidArcs, call, chain(401), *more)


class Everywhere(Case):
    def test_arguments_stay_as_they_are(self):
        numbers = {"c": -2, "b": 3, "a": 0}
        paper = ("numbers", numbers)
        before = copy.deepcopy(numbers)
        is_numbers(SOME, numbers)
        is_numbers_paper(SOME, paper)
        self.assertEqual(list(numbers.items()), list(before.items()))
        way = [0, 1]
        is_way(SOME, way, source="a", target="c")
        self.assertEqual(way, [0, 1])

    def test_changing_a_result_changes_no_later_one(self):
        for call in (
            lambda: distances(SOME, "a"), lambda: numbers_paper(SOME)[1], lambda: closed_arcs(SOME),
        ):
            first = call()
            kept = dict(first)
            self.assertIs(type(first), dict)
            first.clear()
            self.assertEqual(call(), kept)
            call()["zz"] = 1
            self.assertEqual(call(), kept)

    def test_equal_calls_have_equal_results(self):
        for arcs in (SOME, RINGED, chain(50)):
            self.assertEqual(numbers_paper(arcs), numbers_paper(tuple(list(arcs))))

    def test_keys_ascend_whatever_the_order_of_the_arcs(self):
        arcs = (("z", "a", 1), ("a", "m", 1), ("m", "z", 0), ("m", "b", 5))
        for some in (arcs, arcs[::-1]):
            self.assertEqual(list(distances(some, "z")), ["a", "b", "m", "z"])
            self.assertEqual(list(numbers_paper(some)[1]), ["a", "b", "m", "z"])
            self.assertEqual(list(closed_arcs(some)), sorted(closed_arcs(some)))

    def test_functions_are_defined_in_the_module(self):
        for name in (
            "is_arcs", "is_way", "is_ring", "is_numbers", "distances", "shortest_way", "numbers_paper",
            "is_numbers_paper", "closed_arcs",
        ):
            self.assertEqual(getattr(module, name).__module__, "heardlate.base.arcs")


if __name__ == "__main__":
    unittest.main()
