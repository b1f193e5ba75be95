import unittest

from helpers import ALL, INTEGERS, NEITHER, PROGRAM, Checks, chain, is_number, two
from thawedwrites.errors import InvalidArgument
from thawedwrites.heaps import Heap


class HeapTest(Checks, unittest.TestCase):
    def test_the_example(self):
        heap = Heap(("f",), [{"f": 1}, {"f": 0}, {"f": None}], {"b": 2, "a": 0})
        self.assertEqual([heap.at("a", ["f", "f"]), heap.at("b", ["f"]), heap.parts("a", 1), heap.normal().objects()],
                         [0, None, [0, 1], [{"f": 2}, {"f": None}, {"f": 0}]])

    def test_what_was_passed_comes_back(self):
        objects = two([(1, None), (1, 0), (None, None)])
        heap = Heap(["g", "f"], objects, {"b": 2, "a": None, "f": 0})
        self.assertEqual(heap.fields, ("g", "f"))
        self.assertEqual(heap.objects(), two([(1, None), (1, 0), (None, None)]))
        self.assertEqual(heap.names(), {"a": None, "b": 2, "f": 0})
        self.assertIs(type(heap.objects()), list)
        self.assertTrue(all(type(one) is dict for one in heap.objects()))
        self.assertIs(type(heap.names()), dict)

    def test_keywords(self):
        heap = Heap(fields=["f"], objects=chain(2), names={"a": 0})
        self.assertEqual(heap.at(name="a", path=("f",)), 1)
        self.assertEqual(heap.parts(name="a", depth=1), [0, 1])

    def test_later_changes_of_what_was_passed_do_nothing(self):
        fields, objects, names = ["f", "g"], two([(1, None), (None, 0)]), {"a": 0}
        heap = Heap(fields, objects, names)
        fields[0] = "h"
        objects[0]["f"] = None
        objects[1].clear()
        objects.append({"f": 0, "g": 0})
        names["a"] = None
        names["b"] = 1
        self.assertEqual(heap.fields, ("f", "g"))
        self.assertEqual(heap.objects(), two([(1, None), (None, 0)]))
        self.assertEqual(heap.names(), {"a": 0})
        self.assertEqual((heap["a"], "b" in heap, len(heap), heap.at("a", ["f"])), (0, False, 2, 1))
        self.assertEqual(heap, Heap(["f", "g"], two([(1, None), (None, 0)]), {"a": 0}))

    def test_later_changes_of_what_was_returned_do_nothing(self):
        heap = Heap(["f"], chain(3), {"a": 0})
        heap.objects()[0]["f"] = 2
        heap.objects().clear()
        heap.names()["a"] = 1
        heap.parts("a", 2).append(9)
        heap.normal().objects()[0]["f"] = None
        heap.normal().names().clear()
        self.assertEqual(heap.objects(), chain(3))
        self.assertEqual(heap.names(), {"a": 0})
        self.assertEqual(heap.parts("a", 2), [0, 1, 2])
        self.assertEqual(heap.normal().objects(), chain(3))
        self.assertEqual(heap.normal().names(), {"a": 0})
        self.assertEqual(heap, Heap(["f"], chain(3), {"a": 0}))

    def test_each_returned_list_and_dict_is_new(self):
        heap = Heap(["f"], chain(2), {"a": 0})
        self.assertIsNot(heap.objects(), heap.objects())
        self.assertIsNot(heap.objects()[0], heap.objects()[0])
        self.assertIsNot(heap.names(), heap.names())
        self.assertIsNot(heap.parts("a", 1), heap.parts("a", 1))

    def test_nothing_is_modified(self):
        fields, objects, names, path = ["f", "g"], two([(1, None), (None, 0)]), {"b": 0, "a": 1}, ["f", "g"]
        heap = Heap(fields, objects, names)
        heap.at("b", path)
        heap.parts("b", 3)
        heap.normal()
        self.assertEqual((fields, objects, names, path),
                         (["f", "g"], two([(1, None), (None, 0)]), {"b": 0, "a": 1}, ["f", "g"]))
        self.assertEqual(list(names), ["b", "a"])
        self.assertEqual(heap.objects(), objects)

    def test_one_dict_for_several_objects(self):
        one = {"f": 0}
        heap = Heap(["f"], [one, one], {"a": 1})
        one["f"] = None
        self.assertEqual(heap.objects(), [{"f": 0}, {"f": 0}])

    def test_fields_are_a_tuple_also_when_passed_as_a_list(self):
        for fields in [["f", "g"], ("f", "g")]:
            heap = Heap(fields, [], {})
            self.assertEqual(heap.fields, ("f", "g"))
            self.assertIs(type(heap.fields), tuple)
            self.assertIs(type(heap.normal().fields), tuple)
        self.assertEqual(Heap(["f"], [], {}), Heap(("f",), [], {}))

    def test_a_word_may_be_a_field_and_a_name(self):
        heap = Heap(["f"], chain(2), {"f": 1})
        self.assertEqual((heap["f"], heap.at("f", ["f"])), (1, None))

    def test_words_of_one_and_of_eight_letters(self):
        heap = Heap(["abcdefgh", "z"], [{"abcdefgh": 0, "z": None}], {"zyxwvuts": 0, "a": None})
        self.assertEqual(heap.at("zyxwvuts", ["abcdefgh", "abcdefgh"]), 0)


class QuestionsTest(Checks, unittest.TestCase):
    def setUp(self):
        # 0 and 1 share 2; 2 and 3 are a cycle; 4 holds itself; 5 is held by nothing.
        self.heap = Heap(["f", "g"], two([(2, None), (2, 3), (3, None), (None, 2), (4, 4), (0, 1)]),
                         {"a": 0, "b": 1, "none": None, "self": 4})

    def test_what_a_name_holds(self):
        self.assertEqual([self.heap[name] for name in ["a", "b", "none", "self"]], [0, 1, None, 4])

    def test_a_name_that_the_heap_has_not(self):
        for name in [value for value in ALL if value != "a"] + ["c", "f"]:
            self.assert_argument_error("name", lambda one: self.heap[one], name)

    def test_in(self):
        self.assertEqual([name in self.heap for name in ["a", "b", "none", "self"]], [True] * 4)
        for value in [value for value in ALL if value != "a"] + ["c", "f", 0, 4, ("a",), ["a"]]:
            self.assertIs(value in self.heap, False)
        self.assertIs("a" in self.heap, True)
        self.assertIs("a" in Heap(["a"], [{"a": None}], {}), False)

    def test_len(self):
        self.assertEqual(len(self.heap), 6)
        self.assertEqual([len(Heap(["f"], chain(many), {})) for many in (0, 1, 200)], [0, 1, 200])

    def test_a_heap_is_not_iterated_over(self):
        with self.assertRaises(TypeError):
            list(self.heap)

    def test_at(self):
        at = self.heap.at
        self.assertEqual([at("a", []), at("a", ()), at("none", []), at("self", [])], [0, 0, None, 4])
        self.assertEqual([at("a", ["f"]), at("a", ("g",)), at("b", ["g"])], [2, None, 3])
        self.assertEqual([at("a", ["f", "f"]), at("a", ["f", "f", "g"]), at("b", ["f", "f", "g", "f"])], [3, 2, 3])
        self.assertEqual(at("self", ["f", "g"] * 500), 4)

    def test_at_behind_none(self):
        at = self.heap.at
        self.assertIsNone(at("none", ["f", "g"]))
        self.assertIsNone(at("a", ["g", "f"]))
        self.assertIsNone(at("a", ["f", "f", "f"]))
        self.assertIsNone(at("a", ["f", "f", "f", "f", "g"]))

    def test_object_zero_is_no_none(self):
        heap = Heap(["f"], [{"f": 0}], {"a": 0})
        self.assertEqual([heap.at("a", ["f"] * many) for many in range(4)], [0, 0, 0, 0])
        self.assertEqual(heap.parts("a", 0), [0])

    def test_errors_of_at(self):
        for name in [value for value in ALL if value != "a"]:
            self.assert_argument_error("name", self.heap.at, name, ["f"])
            self.assert_argument_error("name", self.heap.at, name, "f")
        for path in [value for value in ALL if value != [] and value != ()]:
            self.assert_argument_error("path", self.heap.at, "a", path)
            self.assert_argument_error("path", self.heap.at, "none", path)
        for step in [value for value in ALL if value != "f"]:
            self.assert_argument_error("path", self.heap.at, "a", [step])
            self.assert_argument_error("path", self.heap.at, "a", ("f", step))
            self.assert_argument_error("path", self.heap.at, "none", ["f", step])
        self.assert_argument_error("path", self.heap.at, "a", {"f": 0})
        self.assert_argument_error("path", self.heap.at, "a", {"f"})
        self.assert_argument_error("path", self.heap.at, "a", "f")
        self.assert_argument_error("path", Heap(["f"], [], {"a": None}).at, "a", ["g"])

    def test_parts(self):
        parts = self.heap.parts
        self.assertEqual([parts("a", depth) for depth in range(4)], [[0], [0, 2], [0, 2, 3], [0, 2, 3]])
        self.assertEqual([parts("b", depth) for depth in range(3)], [[1], [1, 2, 3], [1, 2, 3]])
        self.assertEqual([parts("none", depth) for depth in range(3)], [[], [], []])
        self.assertEqual([parts("self", depth) for depth in range(3)], [[4], [4], [4]])

    def test_parts_of_a_huge_depth(self):
        self.assertEqual(self.heap.parts("b", 10 ** 30), [1, 2, 3])
        self.assertEqual(self.heap.parts("none", 10 ** 30), [])

    def test_parts_are_ascending(self):
        heap = Heap(["f", "g"], two([(None, None), (0, None), (4, 1), (None, None), (3, 0)]), {"a": 2})
        self.assertEqual([heap.parts("a", depth) for depth in range(4)],
                         [[2], [1, 2, 4], [0, 1, 2, 3, 4], [0, 1, 2, 3, 4]])

    def test_parts_along_a_chain(self):
        heap = Heap(["f"], chain(200), {"a": 0, "b": 199})
        self.assertEqual(heap.parts("a", 198), list(range(199)))
        self.assertEqual(heap.parts("a", 199), list(range(200)))
        self.assertEqual(heap.parts("a", 200), list(range(200)))
        self.assertEqual(heap.parts("b", 5), [199])

    def test_errors_of_parts(self):
        for name in [value for value in ALL if value != "a"]:
            self.assert_argument_error("name", self.heap.parts, name, 1)
            self.assert_argument_error("name", self.heap.parts, name, -1)
        for depth in [value for value in ALL if not is_number(value, 0, 10 ** 30)] + [-9]:
            self.assert_argument_error("depth", self.heap.parts, "a", depth)
            self.assert_argument_error("depth", self.heap.parts, "none", depth)


class NormalFormTest(Checks, unittest.TestCase):
    def test_names_come_first_in_ascending_order(self):
        heap = Heap(["f"], [{"f": 3}, {"f": None}, {"f": None}, {"f": None}], {"c": 1, "a": 2, "b": 0})
        self.assertEqual(heap.normal().names(), {"a": 0, "b": 1, "c": 2})
        self.assertEqual(heap.normal().objects(), [{"f": None}, {"f": 3}, {"f": None}, {"f": None}])

    def test_fields_come_in_their_order(self):
        objects = two([(1, 2), (None, None), (0, None)])
        self.assertEqual(Heap(["f", "g"], objects, {"a": 0}).normal().objects(),
                         two([(1, 2), (None, None), (0, None)]))
        self.assertEqual(Heap(["g", "f"], objects, {"a": 0}).normal().objects(),
                         two([(2, 1), (0, None), (None, None)]))

    def test_objects_come_in_the_order_of_their_new_numbers(self):
        # a holds 3, b holds 0; the fields of 3 come ahead of those of 0, and 4 is met ahead of 1 and 2.
        objects = two([(1, 2), (None, None), (5, None), (4, None), (None, 6), (None, None), (None, None)])
        normal = Heap(["f", "g"], objects, {"b": 0, "a": 3}).normal()
        self.assertEqual(normal.names(), {"a": 0, "b": 1})
        self.assertEqual(normal.objects(), two([(2, None), (3, 4), (None, 5), (None, None), (6, None), (None, None),
                                                (None, None)]))

    def test_an_object_keeps_the_first_number(self):
        objects = two([(1, 0), (1, 0)])
        normal = Heap(["f", "g"], objects, {"a": 1, "b": 0, "c": 1}).normal()
        self.assertEqual(normal.names(), {"a": 0, "b": 1, "c": 0})
        self.assertEqual(normal.objects(), two([(0, 1), (0, 1)]))

    def test_objects_that_no_name_comes_to_go(self):
        heap = Heap(["f"], [{"f": 2}, {"f": 1}, {"f": None}], {"a": 1, "b": None})
        self.assertEqual(heap.normal().objects(), [{"f": 0}])
        self.assertEqual(heap.normal().names(), {"a": 0, "b": None})
        self.assertEqual(len(heap), 3)

    def test_a_heap_without_names(self):
        heap = Heap(["f", "g"], two([(0, 1), (1, 1)]), {})
        self.assertEqual((heap.normal().objects(), heap.normal().names(), heap.normal().fields), ([], {}, ("f", "g")))

    def test_the_normal_form_is_a_heap_and_its_own_normal_form(self):
        heap = Heap(["f"], [{"f": 2}, {"f": 0}, {"f": 1}], {"b": 2, "a": 1})
        normal = heap.normal()
        self.assertIs(type(normal), Heap)
        self.assertEqual(normal.normal().objects(), normal.objects())
        self.assertEqual(normal.normal().names(), normal.names())
        self.assertEqual(heap.objects(), [{"f": 2}, {"f": 0}, {"f": 1}])

    def test_the_largest_heap(self):
        objects = [{"f": at - 1 if at else None} for at in range(200)]
        normal = Heap(["f"], objects, {"a": 199}).normal()
        self.assertEqual((normal.objects(), normal.names()), (chain(200), {"a": 0}))


class EqualityTest(Checks, unittest.TestCase):
    def assert_equal(self, one, other):
        self.assertIs(one == other, True)
        self.assertIs(other == one, True)
        self.assertIs(one != other, False)

    def assert_unequal(self, one, other):
        self.assertIs(one == other, False)
        self.assertIs(other == one, False)
        self.assertIs(one != other, True)

    def test_other_numbers(self):
        one = Heap(["f"], [{"f": 1}, {"f": None}, {"f": 2}], {"a": 0, "b": 2})
        other = Heap(["f"], [{"f": 0}, {"f": None}, {"f": 1}], {"b": 0, "a": 2})
        self.assert_equal(one, other)
        self.assert_equal(one, one)
        self.assert_equal(one, one.normal())

    def test_objects_that_no_name_comes_to(self):
        one = Heap(["f"], [{"f": 0}], {"a": 0})
        self.assert_equal(one, Heap(["f"], [{"f": 1}, {"f": 1}, {"f": None}], {"a": 1}))
        self.assert_equal(Heap(["f"], [], {}), Heap(["f"], chain(9), {}))
        self.assert_equal(Heap(["f"], [], {"a": None}), Heap(["f"], chain(9), {"a": None}))

    def test_another_order_of_fields(self):
        objects = two([(None, None)])
        self.assert_unequal(Heap(["f", "g"], objects, {"a": 0}), Heap(["g", "f"], objects, {"a": 0}))
        self.assert_unequal(Heap(["f", "g"], [], {}), Heap(["g", "f"], [], {}))
        self.assert_unequal(Heap(["f"], [], {}), Heap(["g"], [], {}))
        self.assert_unequal(Heap(["f"], [], {}), Heap(["f", "g"], [], {}))

    def test_other_names(self):
        self.assert_unequal(Heap(["f"], chain(1), {"a": 0}), Heap(["f"], chain(1), {"b": 0}))
        self.assert_unequal(Heap(["f"], chain(1), {"a": 0}), Heap(["f"], chain(1), {"a": 0, "b": None}))
        self.assert_unequal(Heap(["f"], chain(1), {"a": 0}), Heap(["f"], chain(1), {"a": None}))

    def test_other_sharing_and_other_values(self):
        self.assert_unequal(Heap(["f"], chain(2), {"a": 0, "b": 1}), Heap(["f"], chain(3), {"a": 0, "b": 2}))
        self.assert_unequal(Heap(["f"], [{"f": None}, {"f": None}], {"a": 0, "b": 1}),
                            Heap(["f"], [{"f": None}], {"a": 0, "b": 0}))
        self.assert_unequal(Heap(["f"], [{"f": 0}], {"a": 0}), Heap(["f"], [{"f": None}], {"a": 0}))
        self.assert_unequal(Heap(["f"], [{"f": 0}], {"a": 0}), Heap(["f"], [{"f": 1}, {"f": 0}], {"a": 0}))
        self.assert_unequal(Heap(["f", "g"], two([(0, None)]), {"a": 0}), Heap(["f", "g"], two([(None, 0)]), {"a": 0}))

    def test_the_order_of_keys_means_nothing(self):
        one = Heap(["f", "g"], [{"f": 1, "g": 2}, {"f": 2, "g": 1}, {"f": 0, "g": 0}], {"a": 0, "b": 1})
        other = Heap(["f", "g"], [{"g": 2, "f": 1}, {"f": 2, "g": 1}, {"g": 0, "f": 0}], {"b": 1, "a": 0})
        self.assert_equal(one, other)
        self.assertEqual(one.normal().objects(), other.normal().objects())

    def test_a_heap_equals_nothing_but_heaps(self):
        heap = Heap(["f"], [{"f": None}], {"a": 0, "b": 0})
        for value in ALL + [PROGRAM, heap.objects(), heap.names(), (heap.fields, heap.objects(), heap.names())]:
            self.assert_unequal(heap, value)
        empty = Heap(["f"], [], {})
        for value in [None, False, 0, "", (), [], {}]:
            self.assert_unequal(empty, value)


class HeapErrorsTest(Checks, unittest.TestCase):
    def test_the_example(self):
        self.assert_heap_error("object", 1, ["f", "g"], [{"f": 0, "g": None}, {"f": 2, "g": None}], {})

    def test_fields(self):
        for fields in ALL:
            if fields != ["a"] and fields != ("a",):
                self.assert_heap_error("fields", None, fields, [], {})
        for field in NEITHER + INTEGERS:
            self.assert_heap_error("fields", None, [field], [], {})
            self.assert_heap_error("fields", None, ("f", field), [], {})
            self.assert_heap_error("fields", None, [field, "f"], [], {})
        for fields in [["f", "f"], ("f", "f"), ["f", "g", "h"], ("f", "g", "h"), {"f": 0}, {"f"}, "fg"]:
            self.assert_heap_error("fields", None, fields, [], {})

    def test_objects(self):
        for objects in ALL + [(), ({"f": None},), {0: {"f": None}}]:
            if type(objects) is not list:
                self.assert_heap_error("objects", None, ["f"], objects, {})
        self.assert_heap_error("objects", None, ["f"], chain(201), {})
        self.assert_heap_error("objects", None, ["f"], [None] * 201, {})
        self.assertEqual([len(Heap(["f"], chain(many), {})) for many in (0, 1, 200)], [0, 1, 200])

    def test_an_object_that_is_no_dict_with_exactly_the_fields(self):
        for one in ALL + [[("f", None)], (("f", None),)]:
            self.assert_heap_error("object", 0, ["f"], [one], {})
            self.assert_heap_error("object", 1, ["f"], [{"f": None}, one], {})
        for one in [{}, {"g": None}, {"f": None, "g": None}, {"f": None, 0: None}, {0: None}, {None: None},
                    {("f",): None}, {b"f": None}, {"f": None, True: None}]:
            self.assert_heap_error("object", 1, ["f"], [{"f": None}, one], {})
        for one in [{}, {"g": None}, {"f": None}, {"f": 0, "h": 0}, {"f": 0, "g": 0, "h": 0}, {"f": 0, None: 0}]:
            self.assert_heap_error("object", 0, ["f", "g"], [one, {"f": None, "g": None}], {})

    def test_a_value_that_is_no_number_of_an_object(self):
        for value in ALL:
            if value is not None and not is_number(value, 0, 1):
                self.assert_heap_error("object", 1, ["f"], [{"f": None}, {"f": value}], {})
                self.assert_heap_error("object", 0, ["f", "g"], two([(0, value), (None, None)]), {})
        for value in [True, False, -1, 2, 1.0, "0", [0], (0,)]:
            self.assert_heap_error("object", 0, ["f"], [{"f": value}, {"f": None}], {})
        self.assert_heap_error("object", 0, ["f"], [{"f": 1}], {})
        self.assert_heap_error("object", 199, ["f"], chain(199) + [{"f": 200}], {})

    def test_the_first_wrong_object(self):
        self.assert_heap_error("object", 1, ["f"], [{"f": 0}, {"f": 3}, None], {})
        self.assert_heap_error("object", 1, ["f"], [{"f": 0}, None, {"f": 3}], {})
        self.assert_heap_error("object", 2, ["f"], [{"f": 0}, {"f": 3}, {}, {"f": 9}], {"A": 0})

    def test_names(self):
        for names in ALL + [[("a", 0)], {"a", "b"}, ["a"], ("a",), "a"]:
            if type(names) is not dict:
                self.assert_heap_error("names", None, ["f"], [{"f": None}], names)
        for name in [0, None, True, 1.5, "", "A", "a1", "abcdefghi", b"a", (), ("a",), frozenset()]:
            self.assert_heap_error("names", None, ["f"], [{"f": None}], {"a": 0, name: 0})
            self.assert_heap_error("names", None, ["f"], [{"f": None}], {name: None, "a": 9})

    def test_how_many_names(self):
        for many in (0, 6):
            names = {letter: None for letter in "abcdefg"[:many]}
            self.assertEqual(Heap(["f"], [], names).names(), names)
        self.assert_heap_error("names", None, ["f"], [], {letter: None for letter in "abcdefg"})
        self.assert_heap_error("names", None, ["f"], [], {letter: 9 for letter in "abcdefg"})

    def test_a_name_that_holds_no_object(self):
        for value in ALL:
            if value is not None and not is_number(value, 0, 1):
                self.assert_heap_error("name", "b", ["f"], chain(2), {"a": 1, "b": value})
        for value in [True, False, -1, 2, 0.0, "0"]:
            self.assert_heap_error("name", "a", ["f"], chain(2), {"a": value})
        self.assert_heap_error("name", "a", ["f"], [], {"a": 0})

    def test_the_first_wrong_name_in_ascending_order(self):
        self.assert_heap_error("name", "b", ["f"], [], {"c": 1, "b": 1, "a": None})
        self.assert_heap_error("name", "aa", ["f"], [], {"b": 1, "ab": 1, "aa": 1, "a": None})

    def test_the_order_of_the_checks(self):
        names = {"a": 5}
        self.assert_heap_error("fields", None, [], None, None)
        self.assert_heap_error("fields", None, ["f", "f"], [None], names)
        self.assert_heap_error("objects", None, ["f"], None, None)
        self.assert_heap_error("objects", None, ["f"], [None] * 201, names)
        self.assert_heap_error("object", 0, ["f"], [None], None)
        self.assert_heap_error("object", 0, ["f"], [None], names)
        self.assert_heap_error("names", None, ["f"], [{"f": None}], {"A": 0, "a": 5})
        self.assert_heap_error("name", "a", ["f"], [{"f": None}], names)

    def test_an_error_leaves_what_was_passed(self):
        fields, objects, names = ["f"], [{"f": 0}, {"f": 7}], {"a": 9}
        self.assert_heap_error("object", 1, fields, objects, names)
        self.assertEqual((fields, objects, names), (["f"], [{"f": 0}, {"f": 7}], {"a": 9}))

    def test_questions_that_raise_leave_the_heap(self):
        heap = Heap(["f"], chain(2), {"a": 0})
        for question in [lambda: heap["b"], lambda: heap.at("a", ["g"]), lambda: heap.parts("a", -1)]:
            with self.assertRaises(InvalidArgument):
                question()
        self.assertEqual((heap.objects(), heap.names()), (chain(2), {"a": 0}))


if __name__ == "__main__":
    unittest.main()
