"""Tasks: their classes, operators, texts and spans ([18.1], [18.2], stage 18)."""

import itertools
import random
import unittest

from heardlate.errors import InvalidOperation, InvalidTask, ParseError
from heardlate.tasks import tasks as module
from heardlate.tasks.tasks import MAX_LEAVES, MAX_NEST, Beside, Other, Own, Row, Task, Within, compiled
from tests import task_answers
from tests.samples import ODD, Case

A, B, C, D = (Own(name, 1, 2) for name in "abcd")
CLASSES = (Own, Other, Row, Beside, Within)
TASKS = (A, Other("a", 1, 2), Row(A, B), Beside(A, B), Within(A, 3))


def nested_leaf(deep):
    """The text of a leaf that is nested so deep, in withins."""
    return "[" * (deep - 1) + "a 1..2" + "] 9" * (deep - 1)


class Classes(Case):
    def test_modules(self):
        for part in (Task, *CLASSES, compiled):
            self.assertEqual(part.__module__, "heardlate.tasks.tasks")
            self.assertIs(getattr(module, part.__name__), part)
        self.assertEqual((MAX_LEAVES, MAX_NEST), (8, 6))

    def test_methods_stand_in_each_class(self):
        self.assertIn("read", vars(Task))
        for kind in CLASSES:
            self.assertTrue(issubclass(kind, Task))
            for name in (
                "__init__", "leaves", "keeps", "within", "__rshift__", "__and__", "__len__", "__contains__", "__eq__",
                "__str__",
            ):
                self.assertIn(name, vars(kind), (kind, name))

    def test_no_iteration(self):
        for task in TASKS:
            self.assertRaises(TypeError, iter, task)
            self.assertRaises(TypeError, list, task)

    def test_leaves(self):
        self.assertEqual([task.leaves for task in TASKS], [("a",), ("a",), ("a", "b"), ("a", "b"), ("a",)])
        self.assertEqual([len(task) for task in TASKS], [1, 1, 2, 2, 1])
        task = Beside(Row(D, B), Within(Row(C, A), 9))
        self.assertEqual((task.leaves, len(task)), (("d", "b", "c", "a"), 4))
        self.assertRaises(AttributeError, setattr, task, "leaves", ())

    def test_contains(self):
        task = Beside(Row(D, B), Within(A, 9))
        for name in "abd":
            self.assertIs(name in task, True)
        for value in ODD + ("c", "ab", "A", ("a",), ["a"], "af", A, task):
            self.assertIs(value in task, False)
            for other in TASKS:
                self.assertIs(value in other, False)
        for task in TASKS:
            self.assertIs("a" in task, True)
            self.assertIs("b" in task, len(task) == 2)

    def test_texts(self):
        for task, text in (
            (Own("a", 2, 5), "a 2..5"), (Own("abcdef", 0, 99), "abcdef 0..99"), (Other("a", 2, 5), "a 2..5? 0"),
            (Other("a", 1, 1, delay=99), "a 1..1? 99"), (Other("a", 2, 5, delay=None), "a 2..5? never"),
            (Row(A, B), "a 1..2; b 1..2"), (Beside(A, B), "a 1..2 | b 1..2"), (Within(A, 0), "[a 1..2] 0"),
            (Beside(Row(A, B), C), "a 1..2; b 1..2 | c 1..2"), (Row(Beside(A, B), C), "(a 1..2 | b 1..2); c 1..2"),
            (Row(A, Beside(B, C)), "a 1..2; (b 1..2 | c 1..2)"), (Within(Row(A, B), 7), "[a 1..2; b 1..2] 7"),
            (Within(Beside(A, B), 7), "[a 1..2 | b 1..2] 7"), (Row(Within(Beside(A, B), 7), C), "[a 1..2 | b 1..2] 7; c 1..2"),
            (Row(Beside(Row(A, B), C), D), "(a 1..2; b 1..2 | c 1..2); d 1..2"), (Within(Within(A, 3), 4), "[[a 1..2] 3] 4"),
            (Row(Beside(Own("a", 1, 2), Own("b", 1, 1)), Within(Own("c", 2, 2), 5)), "(a 1..2 | b 1..1); [c 2..2] 5"),
        ):
            self.assertEqual(str(task), text)
            self.assertEqual(Task.read(text), task)
            self.assertIs(type(Task.read(text)), type(task))

    def test_by_keyword(self):
        self.assertEqual(Own(most=5, name="a", least=2), Own("a", 2, 5))
        self.assertEqual(Other(delay=3, most=5, name="a", least=2), Other("a", 2, 5, delay=3))
        self.assertEqual(Other("a", 2, 5), Other("a", 2, 5, delay=0))
        self.assertEqual(Within(most=3, task=A), Within(A, 3))
        self.assertEqual(Task.read(text="a 1..2"), A)
        self.assertEqual(A.within(most=3), Within(A, 3))
        self.assertIs(A.keeps(spans={"a": (0, 1)}), True)


class Leaves(Case):
    def test_names(self):
        for name in ("a", "z", "abcdef", "start", "never"):
            self.assertEqual(Own(name, 1, 2).leaves, (name,))
            self.assertEqual(Other(name, 1, 2).leaves, (name,))
        for name in ODD + ("", "abcdefg", "abcdefgh", "A", "a1", "a b", ("a",), "a\n"):
            if name not in ("zz", "start"):
                self.refuses(InvalidTask, Own, name, 1, 2)
                self.refuses(InvalidTask, Other, name, 1, 2)
                self.refuses(InvalidTask, Own, name, None, None)

    def test_durations_of_own_work(self):
        for least, most in ((0, 0), (0, 99), (99, 99), (1, 1), (98, 99)):
            self.assertEqual(str(Own("a", least, most)), f"a {least}..{most}")
        for least, most in ((1, 0), (0, 100), (100, 100), (-1, 0), (True, 2), (0, True), (None, 1), (1, None), ("1", 2)):
            self.refuses(InvalidTask, Own, "a", least, most)

    def test_durations_of_other_work(self):
        for least, most in ((1, 1), (1, 99), (99, 99)):
            self.assertEqual(str(Other("a", least, most)), f"a {least}..{most}? 0")
        for least, most in ((0, 0), (0, 1), (2, 1), (1, 100), (100, 100), (-1, 5), (True, 2), (1, True), (None, 1), (1, [])):
            self.refuses(InvalidTask, Other, "a", least, most)

    def test_other_numbers(self):
        for value in ODD:
            if type(value) is not int or not 0 <= value <= 2:
                self.refuses(InvalidTask, Own, "a", value, 2)
            if type(value) is not int or not 1 <= value <= 2:
                self.refuses(InvalidTask, Other, "a", value, 2)
            if type(value) is not int or not 2 <= value <= 99:
                self.refuses(InvalidTask, Own, "a", 2, value)
                self.refuses(InvalidTask, Other, "a", 2, value)
            if value is not None and (type(value) is not int or not 0 <= value <= 99):
                self.refuses(InvalidTask, Other, "a", 2, 5, delay=value)

    def test_delays(self):
        for delay in (0, 1, 99, None):
            self.assertEqual(Task.read(str(Other("a", 1, 2, delay=delay))), Other("a", 1, 2, delay=delay))
        for delay in (-1, 100, True, False, "never", "0", ()):
            self.refuses(InvalidTask, Other, "a", 1, 2, delay=delay)


class Joined(Case):
    def test_rows_in_rows(self):
        one = Row(A, B, C, D)
        for task in (
            Row(Row(A, B), C, D), Row(A, Row(B, C), D), Row(A, B, Row(C, D)), Row(Row(A, B), Row(C, D)), A >> B >> C >> D,
            A >> (B >> (C >> D)), (A >> B) >> (C >> D), Row(Row(Row(A, B), C), D), Task.read("a 1..2; b 1..2; c 1..2; d 1..2"),
        ):
            self.assertEqual((task, str(task)), (one, "a 1..2; b 1..2; c 1..2; d 1..2"))

    def test_besides_in_besides(self):
        one = Beside(A, B, C, D)
        for task in (
            Beside(Beside(A, B), C, D), Beside(A, Beside(B, C), D), A & B & C & D, A & (B & (C & D)), (A & B) & (C & D),
            Beside(Beside(Beside(A, B), C), D), Task.read("a 1..2 | b 1..2 | c 1..2 | d 1..2"),
        ):
            self.assertEqual((task, str(task)), (one, "a 1..2 | b 1..2 | c 1..2 | d 1..2"))

    def test_only_directly(self):
        self.assertNotEqual(Row(Within(Row(A, B), 99), C), Row(A, B, C))
        self.assertEqual(str(Row(Within(Row(A, B), 99), C)), "[a 1..2; b 1..2] 99; c 1..2")
        self.assertEqual(str(Beside(Row(A, Beside(B, C)), D)), "a 1..2; (b 1..2 | c 1..2) | d 1..2")

    def test_operators(self):
        self.assertEqual(A >> B, Row(A, B))
        self.assertEqual(A & B, Beside(A, B))
        self.assertEqual(A.within(5), Within(A, 5))
        for task in TASKS:
            self.assertEqual(task >> C, Row(task, C))
            self.assertEqual(C >> task, Row(C, task))
            self.assertEqual(task & C, Beside(task, C))
            self.assertEqual(task.within(9), Within(task, 9))

    def test_operators_check_the_other_one(self):
        for task in TASKS:
            for value in ODD + ("b 1..2", (B,), [B], Task):
                if not isinstance(value, Task):
                    self.refuses(InvalidTask, lambda: task >> value)
                    self.refuses(InvalidTask, lambda: task & value)
            self.refuses(InvalidTask, lambda: task >> A)
            self.refuses(InvalidTask, lambda: task & task)

    def test_fewer_than_two(self):
        for kind in (Row, Beside):
            self.refuses(InvalidTask, kind)
            self.refuses(InvalidTask, kind, A)
            self.refuses(InvalidTask, kind, Row(A, B))
            self.refuses(InvalidTask, kind, Beside(A, B))

    def test_what_is_no_task(self):
        for value in ODD + ("a 1..2", [A], (A, B)):
            if not isinstance(value, Task):
                for kind in (Row, Beside):
                    self.refuses(InvalidTask, kind, A, value)
                    self.refuses(InvalidTask, kind, value, B)
                    self.refuses(InvalidTask, kind, A, B, value)
                self.refuses(InvalidTask, Within, value, 3)
                self.refuses(InvalidTask, Within, value, None)

    def test_withins(self):
        for most in (0, 1, 99):
            self.assertEqual(str(Within(A, most)), f"[a 1..2] {most}")
        for most in ODD + (-1, 100, True, "3"):
            if type(most) is not int or not 0 <= most <= 99:
                self.refuses(InvalidTask, Within, A, most)
                self.refuses(InvalidTask, A.within, most)

    def test_names_twice(self):
        for make in (
            lambda: Row(A, A), lambda: Beside(A, B, A), lambda: Row(A, Within(A, 3)), lambda: Beside(Row(A, B), Row(C, B)),
            lambda: A >> Other("a", 1, 2), lambda: A & A,
        ):
            self.refuses(InvalidTask, make)
        self.refuses(ParseError, Task.read, "a 1..2; a 1..2")
        self.refuses(ParseError, Task.read, "a 1..2 | b 1..2; a 1..3")

    def test_eight_leaves_and_nine(self):
        leaves = [Own(name, 1, 2) for name in "abcdefghi"]
        for kind, sign in ((Row, "; "), (Beside, " | ")):
            self.assertEqual(len(kind(*leaves[:8])), 8)
            self.refuses(InvalidTask, kind, *leaves)
            self.refuses(InvalidTask, kind, kind(*leaves[:8]), leaves[8])
            self.assertEqual(len(Task.read(sign.join(map(str, leaves[:8])))), 8)
            self.refuses(ParseError, Task.read, sign.join(map(str, leaves)))
        eight = Row(*leaves[:8])
        self.refuses(InvalidTask, lambda: eight >> leaves[8])
        self.refuses(InvalidTask, lambda: eight & leaves[8])
        self.assertEqual(len(eight.within(99)), 8)

    def test_six_deep_and_seven(self):
        task = A
        for deep in range(2, 7):
            task = task.within(9)
            self.assertEqual(str(task), nested_leaf(deep))
            self.assertEqual(Task.read(nested_leaf(deep)), task)
        self.refuses(InvalidTask, Within, task, 9)
        self.refuses(InvalidTask, task.within, 9)
        self.refuses(InvalidTask, Row, task, B)
        self.refuses(InvalidTask, Beside, B, task)
        self.refuses(InvalidTask, lambda: B >> task)
        self.refuses(ParseError, Task.read, nested_leaf(7))
        self.refuses(ParseError, Task.read, nested_leaf(700))
        self.refuses(ParseError, Task.read, "[" * 5000)
        self.refuses(ParseError, Task.read, "(" * 5000 + ")" * 5000)

    def test_depth_of_rows_and_besides(self):
        task = A
        for place, name in enumerate("bcdef"):
            task = Row(task, Own(name, 1, 1)) if place % 2 == 0 else Beside(task, Own(name, 1, 1))
        self.assertEqual(Task.read(str(task)), task)
        self.assertEqual(str(task), "((a 1..2; b 1..1 | c 1..1); d 1..1 | e 1..1); f 1..1")
        self.refuses(InvalidTask, Beside, task, Own("g", 1, 1))
        self.refuses(InvalidTask, Within, task, 9)
        # A row becomes part of the row, which is nested no deeper by it.
        self.assertEqual(len(Row(task, Own("g", 1, 1))), 7)
        self.refuses(ParseError, Task.read, str(task) + " | g 1..1")

    def test_equality(self):
        tasks = [
            A, Own("a", 1, 3), Own("a", 0, 2), Own("b", 1, 2), Other("a", 1, 2), Other("a", 1, 2, delay=1),
            Other("a", 1, 2, delay=None), Row(A, B), Row(B, A), Beside(A, B), Within(A, 3), Within(A, 4), Within(Row(A, B), 3),
            Row(A, B, C), Row(A, Beside(B, C)), Beside(Row(A, B), C), Row(Within(A, 3), B), Within(Within(A, 3), 3),
        ]
        for one, other in itertools.permutations(tasks, 2):
            self.assertIs(one == other, False)
            self.assertIs(one != other, True)
            self.assertNotEqual(str(one), str(other))
        for task in tasks:
            same = Task.read(str(task))
            self.assertIs(task == same, True)
            self.assertIs(task != same, False)
            for value in ODD + (str(task), task.leaves):
                if not isinstance(value, Task):
                    self.assertIs(task == value, False)
                    self.assertIs(value == task, False)


class Texts(Case):
    def test_drawn_tasks(self):
        kinds = set()
        for drawn in task_answers.some_tasks(500, 561):
            self.assertEqual(str(drawn.task), drawn.text)
            self.assertEqual(drawn.task.leaves, drawn.names)
            read = Task.read(drawn.text)
            self.assertEqual((read, str(read), type(read)), (drawn.task, drawn.text, type(drawn.task)))
            kinds.add((drawn.kind, drawn.depth))
        self.assertGreater(len(kinds), 10)

    def test_what_is_no_text(self):
        for value in ODD + (b"a 1..2", A, ["a 1..2"], ("a 1..2",)):
            self.refuses(ParseError, Task.read, value)

    def test_leaves_that_are_none(self):
        for text in (
            "a", "a 1", "a 1..", "a ..2", "a 1.2", "a 1...2", "a 1..2?", "a 1..2 0", "a 1..2? ", "a 1..2?0", "a 1..2 ? 0",
            "a 1..2? None", "a 1..2? -1", "a 1..2? 100", "a 1..2? 01", "a 1..2? +1", "a 1..2? -0", "a 1..2?? 0", "a 1..2? 0 0",
            "a 01..2", "a 1..02", "a +1..2", "a -0..2", "a -1..2", "a 0..100", "a 2..1", "a 0..1? 0", "a 1..100? 0",
            "abcdefg 1..2", "A 1..2", "1 1..2", " a 1..2", "a 1..2 ", "a  1..2", "a\t1..2", "a 1..2\n", "\na 1..2", "1..2",
            "a1..2", "a 1..2? Never", "a 1..2? never ", "a 1..2 never", "a 1,2", "a 1-2", "a:1..2", "a 1..2.", "a 1..2!",
            "a 1.." + "9" * 40, "a " + "1" * 41 + "..99", "a 00..2", "a x..y", "a 1..2? x",
        ):
            self.refuses(ParseError, Task.read, text)

    def test_rows_and_besides_that_are_none(self):
        for text in (
            "a 1..2;b 1..2", "a 1..2 ; b 1..2", "a 1..2;  b 1..2", "a 1..2; ", "; a 1..2", "a 1..2;", "a 1..2; ; b 1..2",
            "a 1..2|b 1..2", "a 1..2| b 1..2", "a 1..2 |b 1..2", "a 1..2 | ", " | a 1..2", "a 1..2 |", "a 1..2 | | b 1..2",
            "a 1..2  | b 1..2", "a 1..2, b 1..2", "a 1..2 b 1..2", "a 1..2 & b 1..2", "a 1..2 >> b 1..2", "a 1..2\nb 1..2",
            "a 1..2; b 1..2;", "a 1..2 | b 1..2 |", "a 1..2; b 1..2 ", "a 1..2 || b 1..2",
        ):
            self.refuses(ParseError, Task.read, text)

    def test_withins_that_are_none(self):
        for text in (
            "[a 1..2]", "[a 1..2] ", "[a 1..2]3", "[a 1..2]  3", "[a 1..2] 100", "[a 1..2] -1", "[a 1..2] 03", "[a 1..2] never",
            "[a 1..2 3", "a 1..2] 3", "[] 3", "[ a 1..2] 3", "[a 1..2 ] 3", "[[a 1..2] 3", "[a 1..2]] 3", "[a 1..2] 3]", "]a 1..2[ 3",
            "[a 1..2] 3 4", "[a 1..2]] 3] 4", "{a 1..2} 3", "[a 1..2] +3", "[a 1..2] -0", "[a 1..2] 3? 0", "[a 1..2; b 1..2 3",
            "[a 1..2] 3; b 1..2] 3", "[a 1..2] 3 [b 1..2] 3", "[", "]", "[]", "[] ", "[a 1..2] 3\n",
        ):
            self.refuses(ParseError, Task.read, text)

    def test_parentheses_where_none_stand(self):
        for text in (
            "(a 1..2)", "(a 1..2); b 1..2", "a 1..2; (b 1..2)", "(a 1..2; b 1..2); c 1..2", "a 1..2; (b 1..2; c 1..2)",
            "(a 1..2; b 1..2) | c 1..2", "a 1..2 | (b 1..2 | c 1..2)", "(a 1..2 | b 1..2) | c 1..2", "(a 1..2 | b 1..2)",
            "[(a 1..2 | b 1..2)] 3", "([a 1..2] 3); b 1..2", "((a 1..2 | b 1..2)); c 1..2", "[(a 1..2)] 3", "(a 1..2) | b 1..2",
            "(a 1..2; b 1..2)", "[(a 1..2; b 1..2)] 3", "()", "(); a 1..2", "( ); a 1..2", "(a 1..2 | b 1..2)c 1..2",
            "(a 1..2 | b 1..2; c 1..2", "a 1..2 | b 1..2); c 1..2", "(a 1..2 | b 1..2)); c 1..2", "(a 1..2 | b 1..2]; c 1..2",
            "[a 1..2 | b 1..2) 3", "(a 1..2 | b 1..2) 3", "(a 1..2 | b 1..2);(c 1..2 | d 1..2)", ")a 1..2 | b 1..2(; c 1..2",
            "([a 1..2) 3 | b 1..2]; c 1..2",
        ):
            self.refuses(ParseError, Task.read, text)

    def test_texts_with_a_sign_more_or_fewer(self):
        chance = random.Random(562)
        wrong = 0
        for drawn in task_answers.some_tasks(60, 563, leaves=4):
            for _ in range(60):
                text = list(drawn.text)
                place = chance.randrange(len(text) + 1)
                if chance.random() < 0.5 and place < len(text):
                    del text[place]
                else:
                    text.insert(place, chance.choice("()[]|;? .0a9\n-"))
                text = "".join(text)
                # What can be read at all is written again as it was.
                try:
                    task = Task.read(text)
                except ParseError:
                    wrong += 1
                else:
                    self.assertEqual(str(task), text)
        self.assertGreater(wrong, 2000)

    def test_class_methods_of_the_classes(self):
        for kind in CLASSES:
            self.assertEqual(kind.read("a 1..2"), A)


class Spans(Case):
    def test_leaves(self):
        for task in (Own("a", 2, 4), Other("a", 2, 4, delay=None)):
            self.assertEqual([task.keeps({"a": (3, 3 + many)}) for many in range(6)], [False] * 2 + [True] * 3 + [False])
        self.assertIs(Own("a", 0, 0).keeps({"a": (7, 7)}), True)

    def test_leaves_that_end_before_they_begin(self):
        for task in TASKS:
            spans = {"a": (5, 4), "b": (9, 10)}
            self.assertIs(task.keeps({name: spans[name] for name in task.leaves}), False)
        self.assertIs(Own("a", 0, 3).keeps({"a": (5, 4)}), False)

    def test_rows(self):
        task = Row(A, B, C)
        self.assertIs(task.keeps({"a": (0, 1), "b": (1, 2), "c": (2, 3)}), True)
        self.assertIs(task.keeps({"a": (0, 1), "b": (5, 7), "c": (9, 10)}), True)
        self.assertIs(task.keeps({"a": (0, 2), "b": (1, 2), "c": (2, 3)}), False)
        self.assertIs(task.keeps({"a": (0, 1), "b": (1, 3), "c": (2, 3)}), False)
        self.assertIs(task.keeps({"a": (0, 1), "b": (1, 4), "c": (4, 5)}), False)
        task = Row(Beside(A, B), Beside(C, D))
        spans = {"a": (0, 2), "b": (3, 4), "c": (4, 5), "d": (6, 7)}
        self.assertIs(task.keeps(spans), True)
        self.assertIs(task.keeps({**spans, "c": (3, 4)}), False)
        self.assertIs(task.keeps({**spans, "d": (3, 4)}), False)
        self.assertIs(task.keeps({**spans, "d": (2, 3)}), False)
        # Not only the task just in front counts.
        task = Row(Own("a", 0, 9), Own("b", 0, 9), Own("c", 0, 9))
        self.assertIs(task.keeps({"a": (0, 5), "b": (5, 5), "c": (4, 6)}), False)

    def test_withins(self):
        task = Within(Beside(A, B), 4)
        self.assertIs(task.keeps({"a": (3, 4), "b": (5, 7)}), True)
        self.assertIs(task.keeps({"a": (3, 4), "b": (6, 8)}), False)
        self.assertIs(task.keeps({"b": (3, 4), "a": (6, 8)}), False)
        self.assertIs(task.keeps({"b": (0, 2), "a": (0, 3)}), False)
        self.assertIs(Within(Own("a", 0, 5), 0).keeps({"a": (4, 4)}), True)
        self.assertIs(Within(Own("a", 0, 5), 0).keeps({"a": (4, 5)}), False)
        self.assertIs(Within(Own("a", 0, 99), 99).keeps({"a": (4, 103)}), True)

    def test_drawn_tasks(self):
        chance = random.Random(564)
        kept = {True: 0, False: 0}
        for drawn in task_answers.some_tasks(400, 565, leaves=5, longest=3):
            for _ in range(30):
                spans = {}
                tick = 0
                for name in drawn.names:
                    tick += chance.randint(-1, 2) if tick else 0
                    finish = max(0, tick + chance.randint(-1, 4))
                    spans[name] = (max(0, tick), finish)
                    tick = finish
                if chance.random() < 0.5:
                    spans = dict(reversed(spans.items()))
                before = dict(spans)
                result = drawn.task.keeps(spans)
                self.assertIs(result, drawn.keeps(spans))
                self.assertEqual(list(spans.items()), list(before.items()))
                kept[result] += 1
        self.assertGreater(min(kept.values()), 500)

    def test_what_are_no_spans(self):
        for value in ODD:
            for task in TASKS:
                self.refuses(InvalidOperation, task.keeps, value)
            if not (isinstance(value, tuple) and len(value) == 2 and all(type(x) is int and x >= 0 for x in value)):
                self.refuses(InvalidOperation, A.keeps, {"a": value})
                self.refuses(InvalidOperation, Row(A, B).keeps, {"a": (0, 1), "b": value})
            if type(value) is not int or value < 0:
                self.refuses(InvalidOperation, A.keeps, {"a": (value, 3)})
                self.refuses(InvalidOperation, A.keeps, {"a": (0, value)})
        for value in (
            {}, {"a": (0, 1), "b": (0, 1)}, {"b": (0, 1)}, {"a": [0, 1]}, {"a": (0,)}, {"a": (0, 1, 2)}, {"a": (-1, 1)},
            {"a": (True, 2)}, {"a": (0, True)}, {"a": 1}, {"a": (0, None)}, (("a", (0, 1)),), {"ab": 0, "af": 1}, {"a": (0, -1)},
        ):
            self.refuses(InvalidOperation, A.keeps, value)


if __name__ == "__main__":
    unittest.main()
