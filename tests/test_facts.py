import unittest

from helpers import ALL, HEAP, INTEGERS, NEITHER, PROGRAM, WORDS, Checks, is_number, two
from thawedwrites.facts import Facts
from thawedwrites.heaps import Heap

HUGE = 10 ** 40
NO_LABELS = [value for value in ALL if value is not None and not is_number(value, 0, HUGE)]


def line(many):
    """Edges that lead from label 0 to label 1 and so on, so many labels in all."""
    return {(label, "f"): label + 1 for label in range(many - 1)}


class FactsTest(Checks, unittest.TestCase):
    def test_the_examples(self):
        facts = Facts(["f"], {"x": 7, "y": None}, {(7, "f"): 3})
        self.assertEqual([facts.names(), facts.edges(), len(facts)], [{"x": 0, "y": None}, {(0, "f"): 1}, 2])
        self.assertEqual([facts.told("x", ("f",)), facts.told("x", ("f", "f")), facts.told("y", ("f",))],
                         [("object", 1), ("open",), ("none",)])

    def test_fields(self):
        for fields in [["g", "f"], ("g", "f")]:
            facts = Facts(fields, {"a": None}, {})
            self.assertEqual(facts.fields, ("g", "f"))
            self.assertIs(type(facts.fields), tuple)

    def test_keywords(self):
        facts = Facts(fields=["f"], names={"a": 0}, edges={(0, "f"): None})
        self.assertEqual(facts.told(name="a", path=("f",)), ("none",))

    def test_labels_of_any_size(self):
        facts = Facts(["f"], {"a": HUGE, "b": 10 ** 6}, {(HUGE, "f"): 2 ** 100, (2 ** 100, "f"): 0})
        self.assertEqual((facts.names(), facts.edges()), ({"a": 0, "b": 1}, {(0, "f"): 2, (2, "f"): 3}))

    def test_one_to_three_names(self):
        for names in [{"a": 0}, {"a": 0, "b": 0}, {"a": None, "b": 0, "abcdefgh": 1}]:
            self.assertEqual(sorted(Facts(["f"], names, {}).names()), sorted(names))

    def test_no_object_is_told(self):
        facts = Facts(["f"], {"a": None, "b": None}, {})
        self.assertEqual((len(facts), facts.names(), facts.edges()), (0, {"a": None, "b": None}, {}))
        self.assertEqual((facts.heap().objects(), facts.heap().names()), ([], {"a": None, "b": None}))

    def test_later_changes_do_nothing(self):
        fields, names, edges = ["f"], {"a": 5}, {(5, "f"): 6}
        facts = Facts(fields, names, edges)
        fields[0] = "g"
        names["b"] = 1
        edges.clear()
        facts.names().clear()
        facts.edges().clear()
        facts.heap().objects().clear()
        self.assertEqual((facts.fields, facts.names(), facts.edges()), (("f",), {"a": 0}, {(0, "f"): 1}))
        self.assertIsNot(facts.names(), facts.names())
        self.assertIsNot(facts.edges(), facts.edges())

    def test_nothing_is_modified(self):
        fields, names, edges = ["f"], {"b": 5, "a": None}, {(5, "f"): 6, (6, "f"): None}
        facts = Facts(fields, names, edges)
        heap = facts.heap()
        self.assertTrue(heap in facts and facts in facts and facts == facts)
        self.assertEqual((fields, names, edges), (["f"], {"b": 5, "a": None}, {(5, "f"): 6, (6, "f"): None}))
        self.assertEqual(list(names), ["b", "a"])


class NormalFormTest(Checks, unittest.TestCase):
    def test_names_come_first_in_ascending_order(self):
        facts = Facts(["f"], {"c": 1, "a": 9, "b": 1}, {(9, "f"): 4, (1, "f"): 0, (4, "f"): 9})
        self.assertEqual(facts.names(), {"a": 0, "b": 1, "c": 1})
        self.assertEqual(facts.edges(), {(0, "f"): 2, (1, "f"): 3, (2, "f"): 0})

    def test_then_labels_in_the_order_of_their_new_numbers(self):
        edges = {(0, "f"): 5, (0, "g"): 6, (5, "f"): 8, (5, "g"): 7, (6, "f"): 4, (6, "g"): None}
        self.assertEqual(Facts(["f", "g"], {"a": 0}, edges).edges(),
                         {(0, "f"): 1, (0, "g"): 2, (1, "f"): 3, (1, "g"): 4, (2, "f"): 5, (2, "g"): None})
        self.assertEqual(Facts(["g", "f"], {"a": 0}, edges).edges(),
                         {(0, "g"): 1, (0, "f"): 2, (1, "f"): 3, (2, "g"): 4, (2, "f"): 5, (1, "g"): None})

    def test_a_label_keeps_its_first_number(self):
        facts = Facts(["f", "g"], {"a": 3, "b": 2}, {(3, "f"): 2, (3, "g"): 1, (2, "f"): 1, (2, "g"): 3})
        self.assertEqual(facts.edges(), {(0, "f"): 1, (0, "g"): 2, (1, "f"): 2, (1, "g"): 0})

    def test_len(self):
        for facts, many in [(Facts(["f"], {"a": 8, "b": 8}, {}), 1), (Facts(["f"], {"a": 8}, {(8, "f"): 8}), 1),
                            (Facts(["f"], {"a": 8}, {(8, "f"): None}), 1), (Facts(["f"], {"a": 0}, line(40)), 40),
                            (Facts(["f", "g"], {"a": 8}, {(8, "g"): 3}), 2)]:
            self.assertEqual(len(facts), many)

    def test_the_normal_form_has_the_same_normal_form(self):
        facts = Facts(["f", "g"], {"a": 3, "b": 2}, {(3, "f"): 2, (3, "g"): 1, (2, "f"): 1, (2, "g"): 3})
        self.assertEqual(Facts(facts.fields, facts.names(), facts.edges()), facts)


class EqualTest(Checks, unittest.TestCase):
    def assert_equal(self, one, other):
        self.assertTrue(one == other and other == one)
        self.assertFalse(one != other or other != one)

    def assert_unequal(self, one, other):
        self.assertFalse(one == other or other == one)
        self.assertTrue(one != other and other != one)

    def test_labels_and_the_order_of_keys_do_not_matter(self):
        one = Facts(["f", "g"], {"a": 3, "b": None}, {(3, "f"): 5, (5, "g"): None, (3, "g"): 3})
        other = Facts(("f", "g"), {"b": None, "a": 0}, {(0, "g"): 0, (HUGE, "g"): None, (0, "f"): HUGE})
        self.assert_equal(one, other)

    def test_unlike_facts(self):
        told = [
            Facts(["f"], {"a": 0}, {}), Facts(["g"], {"a": 0}, {}), Facts(["f", "g"], {"a": 0}, {}),
            Facts(["g", "f"], {"a": 0}, {}), Facts(["f"], {"b": 0}, {}), Facts(["f"], {"a": None}, {}),
            Facts(["f"], {"a": 0, "b": 0}, {}), Facts(["f"], {"a": 0, "b": 1}, {}),
            Facts(["f"], {"a": 0, "b": None}, {}), Facts(["f"], {"a": 0}, {(0, "f"): None}),
            Facts(["f"], {"a": 0}, {(0, "f"): 0}), Facts(["f"], {"a": 0}, {(0, "f"): 1}),
            Facts(["f"], {"a": 0}, {(0, "f"): 1, (1, "f"): None}), Facts(["f"], {"a": 0}, {(0, "f"): 1, (1, "f"): 0}),
            Facts(["f", "g"], {"a": 0}, {(0, "f"): 0}),
            Facts(["f", "g"], {"a": 0}, {(0, "g"): 0}),
        ]
        for at, one in enumerate(told):
            for other in told[at + 1:]:
                self.assert_unequal(one, other)
            self.assert_equal(one, Facts(one.fields, one.names(), one.edges()))

    def test_equal_to_nothing_else(self):
        facts = Facts(["f"], {"a": 0}, {(0, "f"): None})
        for value in ALL + [facts.heap(), HEAP, (facts.fields, facts.names(), facts.edges()), facts.edges()]:
            self.assert_unequal(facts, value)


class FactsErrorsTest(Checks, unittest.TestCase):
    def test_the_example(self):
        self.assert_facts_error("far", ["f"], {"x": 5, "y": None}, {(5, "f"): 5, (6, "f"): 5})

    def test_fields(self):
        for fields in ALL + [["f", "f"], ["f", "g", "h"], {"f": 0}, "fg", {"f", "g"}]:
            if fields != ["a"] and fields != ("a",):
                self.assert_facts_error("fields", fields, {"a": 0}, {})
        for field in NEITHER + INTEGERS:
            self.assert_facts_error("fields", [field], {"a": 0}, {})
            self.assert_facts_error("fields", ("f", field), {"a": 0}, {})

    def test_names(self):
        for names in ALL + [[("a", 0)], {"a"}, {letter: 0 for letter in "abcd"}]:
            if names != {"a": 0}:
                self.assert_facts_error("names", ["f"], names, {})
        for name in [0, None, True, "", "A", "abcdefghi", b"a", ("a",), 1.5]:
            self.assert_facts_error("names", ["f"], {"a": 0, name: 0}, {})
        for value in NO_LABELS:
            self.assert_facts_error("names", ["f"], {"a": 0, "b": value}, {})

    def test_edges(self):
        for edges in ALL + [[((0, "f"), 0)], {(0, "f")}]:
            if edges != {}:
                self.assert_facts_error("edges", ["f"], {"a": 0}, edges)
        for key in [0, "f", (0,), (0, "f", "f"), ("f", 0), (0, "g"), (-1, "f"), (True, "f"), (False, "f"), (0.0, "f"),
                    (None, "f"), ("0", "f"), (0, "F"), (0, None), (0, 0), (), None, (0, ("f",)), frozenset([0, "f"])]:
            self.assert_facts_error("edges", ["f"], {"a": 0}, {key: None})
        for value in NO_LABELS:
            self.assert_facts_error("edges", ["f", "g"], {"a": 0}, {(0, "f"): 0, (0, "g"): value})

    def test_far(self):
        for names, edges in [
            ({"a": None}, {(0, "f"): None}),
            ({"a": 0}, {(1, "f"): None}),
            ({"a": 0}, {(1, "f"): 1}),
            ({"a": 0}, {(1, "f"): 2, (2, "f"): 1}),
            ({"a": 0}, {(1, "f"): 0, (0, "f"): None}),
            ({"a": 0, "b": 1}, {(0, "f"): 1, (1, "f"): 0, (2, "f"): 0}),
        ]:
            self.assert_facts_error("far", ["f"], names, edges)
        facts = Facts(["f", "g"], {"a": 2}, {(1, "g"): 0, (0, "f"): 0, (2, "g"): 1})
        self.assertEqual(facts.edges(), {(0, "g"): 1, (1, "g"): 2, (2, "f"): 2})

    def test_40_and_41_labels(self):
        for many in [40, 41]:
            names = {"a": 0}
            if many == 40:
                self.assertEqual(len(Facts(["f"], names, line(many))), 40)
            else:
                self.assert_facts_error("many", ["f"], names, line(many))
        edges = line(38)
        self.assertEqual(len(Facts(["f"], {"a": 0, "b": 100, "c": 101}, edges)), 40)
        self.assert_facts_error("many", ["f"], {"a": 0, "b": 100, "c": 101}, {**edges, (100, "f"): 102})
        self.assertEqual(len(Facts(["f"], {"a": 0, "b": 100, "c": 101}, {**edges, (100, "f"): 5})), 40)
        tree = {(at, field): 2 * at + side for at in range(20) for side, field in [(1, "f"), (2, "g")]}
        self.assert_facts_error("many", ["f", "g"], {"a": 0}, tree)
        del tree[(19, "g")]
        self.assertEqual(len(Facts(["f", "g"], {"a": 0}, tree)), 40)

    def test_the_order_of_the_checks(self):
        self.assert_facts_error("fields", None, None, None)
        self.assert_facts_error("fields", ["F"], {"a": -1}, None)
        self.assert_facts_error("names", ["f"], None, None)
        self.assert_facts_error("names", ["f"], {"a": True}, {(9, "f"): True})
        self.assert_facts_error("edges", ["f"], {"a": 0}, {(9, "f"): None, (0, "f"): True})
        self.assert_facts_error("edges", ["f"], {"a": 0}, {**line(50), (0, "g"): None})
        self.assert_facts_error("far", ["f"], {"a": 0}, {**line(50), (99, "f"): None})
        self.assert_facts_error("many", ["f"], {"a": 0}, line(50))

    def test_an_error_leaves_what_was_passed(self):
        fields, names, edges = ["f"], {"a": 0}, {(0, "f"): 1, (7, "f"): 0}
        self.assert_facts_error("far", fields, names, edges)
        self.assertEqual((fields, names, edges), (["f"], {"a": 0}, {(0, "f"): 1, (7, "f"): 0}))


class FitsTest(Checks, unittest.TestCase):
    def test_names_and_told_fields(self):
        facts = Facts(["f", "g"], {"a": 0, "b": None}, {(0, "f"): 1, (1, "g"): None})
        self.assertIs(Heap(["f", "g"], two([(1, 0), (0, None)]), {"a": 0, "b": None}) in facts, True)
        self.assertIs(Heap(["f", "g"], two([(2, 1), (0, None), (None, None)]), {"a": 0, "b": None}) in facts, True)
        for objects, names in [
            ([(1, 0), (0, None)], {"a": 0, "b": 0}), ([(1, 0), (0, None)], {"a": None, "b": None}),
            ([(None, 0), (0, None)], {"a": 0, "b": None}), ([(0, None), (0, None)], {"a": 0, "b": None}),
            ([(1, 0), (0, 1)], {"a": 0, "b": None}), ([(1, 0), (0, None)], {"a": 1, "b": None}),
        ]:
            self.assertIs(Heap(["f", "g"], two(objects), names) in facts, False)

    def test_unlike_labels_are_unlike_objects(self):
        one = Facts(["f"], {"a": 0, "b": 0}, {})
        unlike = Facts(["f"], {"a": 0, "b": 1}, {})
        shared = Heap(["f"], [{"f": None}, {"f": None}], {"a": 0, "b": 0})
        apart = Heap(["f"], [{"f": None}, {"f": None}], {"a": 0, "b": 1})
        self.assertEqual([shared in one, apart in one, shared in unlike, apart in unlike], [True, False, False, True])

    def test_an_open_field_may_hold_anything(self):
        facts = Facts(["f"], {"a": 0}, {})
        for held in [None, 0, 1]:
            self.assertIs(Heap(["f"], [{"f": held}, {"f": 0}], {"a": 0}) in facts, True)

    def test_fields_and_names_of_a_heap(self):
        facts = Facts(["f", "g"], {"a": None, "b": None}, {})
        self.assertIs(Heap(["f", "g"], [], {"b": None, "a": None}) in facts, True)
        for fields in [["g", "f"], ["f"], ["f", "h"]]:
            self.assertIs(Heap(fields, [], {"a": None, "b": None}) in facts, False)
        for names in [{"a": None}, {"a": None, "c": None}, {"a": None, "b": None, "c": None}, {}]:
            self.assertIs(Heap(["f", "g"], [], names) in facts, False)

    def test_heaps_of_any_size(self):
        facts = Facts(["f"], {"a": 0}, line(40))
        for many, answer in [(39, False), (40, True), (200, True)]:
            heap = Heap(["f"], [{"f": (at + 1) if at + 1 < many else None} for at in range(many)], {"a": 0})
            self.assertIs(heap in facts, answer)
        self.assertIs(Heap(["f"], [{"f": (at + 1) % 30} for at in range(30)], {"a": 0}) in facts, False)

    def test_facts_in_facts(self):
        fields = ["f"]
        told = {
            "open": Facts(fields, {"a": 0, "b": 1}, {}),
            "none": Facts(fields, {"a": 0, "b": 1}, {(0, "f"): None}),
            "self": Facts(fields, {"a": 0, "b": 1}, {(0, "f"): 0}),
            "other": Facts(fields, {"a": 0, "b": 1}, {(0, "f"): 1}),
            "third": Facts(fields, {"a": 0, "b": 1}, {(0, "f"): 2}),
            "far": Facts(fields, {"a": 0, "b": 1}, {(0, "f"): 2, (2, "f"): None}),
            "both": Facts(fields, {"a": 0, "b": 0}, {}),
            "nothing": Facts(fields, {"a": None, "b": 0}, {}),
        }
        inside = {("open", name) for name in ["none", "self", "other", "third", "far"]} | {("third", "far")}
        for outer, one in told.items():
            for inner, other in told.items():
                self.assertIs(other in one, outer == inner or (outer, inner) in inside, (outer, inner))

    def test_facts_with_other_fields_or_names(self):
        facts = Facts(["f", "g"], {"a": None, "b": None}, {})
        for other in [Facts(["g", "f"], {"a": None, "b": None}, {}), Facts(["f"], {"a": None, "b": None}, {}),
                      Facts(["f", "g"], {"a": None}, {}), Facts(["f", "g"], {"a": None, "c": None}, {}),
                      Facts(["f", "g"], {"a": None, "b": None, "c": None}, {})]:
            self.assertIs(other in facts, False)
            self.assertIs(facts in other, False)

    def test_every_other_value(self):
        facts = Facts(["f"], {"a": 0}, {})
        self.assertIs(HEAP in facts, True)
        for value in ALL + WORDS + [("a", 0), {"a": 0}, PROGRAM, (0, "f"), 0, [HEAP], (HEAP,)]:
            if not isinstance(value, (Heap, Facts)):
                self.assertIs(value in facts, False)

    def test_the_own_heap_fits(self):
        for facts in [Facts(["f"], {"a": 0, "b": 1}, {(1, "f"): 0}), Facts(["f"], {"a": None}, {}),
                      Facts(["f", "g"], {"a": 4, "b": 4}, {(4, "g"): 2, (2, "f"): 4, (2, "g"): None}),
                      Facts(["f"], {"a": 0}, line(40))]:
            self.assertIs(facts.heap() in facts, True)
            self.assertIs(facts in facts, True)


class QuestionsTest(Checks, unittest.TestCase):
    def setUp(self):
        edges = {(6, "f"): 3, (3, "g"): None, (3, "f"): 6, (2, "g"): 2}
        self.facts = Facts(["f", "g"], {"c": 2, "a": 6, "b": None}, edges)

    def test_heap(self):
        heap = self.facts.heap()
        self.assertIs(type(heap), Heap)
        self.assertEqual((heap.fields, heap.names()), (("f", "g"), {"a": 0, "b": None, "c": 1}))
        self.assertEqual(heap.objects(), two([(2, None), (None, 1), (0, None)]))

    def test_heap_of_40_objects(self):
        heap = Facts(["f"], {"a": 0}, line(40)).heap()
        self.assertEqual((len(heap), heap.at("a", ["f"] * 39), heap.at("a", ["f"] * 40)), (40, 39, None))

    def test_told(self):
        told = {
            ("a", ""): ("object", 0), ("b", ""): ("none",), ("c", ""): ("object", 1), ("a", "f"): ("object", 2),
            ("a", "g"): ("open",), ("a", "ff"): ("object", 0), ("a", "fg"): ("none",), ("a", "fgf"): ("none",),
            ("a", "gf"): ("open",), ("a", "gggg"): ("open",), ("b", "f"): ("none",), ("b", "gf"): ("none",),
            ("c", "gggg"): ("object", 1), ("c", "ggf"): ("open",), ("a", "fffg"): ("none",), ("a", "ffg"): ("open",),
            ("a", "ffgg"): ("open",), ("a", "f" * 1000): ("object", 0),
        }
        for (name, path), answer in told.items():
            self.assertEqual(self.facts.told(name, tuple(path)), answer, (name, path))

    def test_a_name_that_the_facts_have_not(self):
        for name in [value for value in ALL if value != "a"] + ["d", "f"]:
            self.assert_argument_error("name", self.facts.told, name, ())
            self.assert_argument_error("name", self.facts.told, name, ["f"])
            self.assert_argument_error("name", self.facts.told, name, None)

    def test_a_path_that_is_no_tuple_of_fields(self):
        for path in ALL + [["f"], [], "f", "fg", ("h",), ("f", "h"), ("f", 0), ("f", None), (("f",),), {"f": 0}, {"f"}]:
            if path != ():
                self.assert_argument_error("path", self.facts.told, "a", path)
        for value in NEITHER + INTEGERS:
            self.assert_argument_error("path", self.facts.told, "a", ("f", value))

    def test_the_whole_path_is_looked_at(self):
        for name in "ab":
            self.assert_argument_error("path", self.facts.told, name, ("g", "f", "h"))


if __name__ == "__main__":
    unittest.main()
