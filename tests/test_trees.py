"""What trees are, and their leaves: points 2 and 13."""

import unittest

from hourtable.rings import first_bounds
from hourtable.trees import is_tree, leaves_of, shown_by
from tests.samples import (GREATEST, NO_NUMBERS, NO_TEXTS, PLAIN_NETS, SMALL_NETS, Odd, deep_tuple, is_plain,
                           knotted_list)

NET = (10, 3, ((0, 1, 2, 5, 3), (1, 2, 1, 4, 1), (2, 0, 3, 9, 2), (0, 1, 0, 9, 0)))
RING = ((0, 1), (1, 1), (2, 1))
PAIR = ((0, 1), (3, -1))
EMPTY = ("price", ())
PRICE = ("price", ((4, RING), (-7, PAIR)))
TREE = ("cut", 0, 3, PRICE, ("cut", 2, 5, ("ring", RING), EMPTY))

LONG = (100000, 2, ((0, 1, 0, 99999, 1), (1, 0, 0, 99999, 1)))


def places_in(thing, path=()):
    """The paths to all that stands within a thing, itself ahead of its parts."""
    paths = [path]
    if type(thing) is tuple:
        for number, part in enumerate(thing):
            paths.extend(places_in(part, path + (number,)))
    return paths


def at_place(thing, path):
    for number in path:
        thing = thing[number]
    return thing


def changed(thing, path, other):
    """The thing with another one in the place that a path leads to."""
    if path == ():
        return other
    part = changed(thing[path[0]], path[1:], other)
    return thing[:path[0]] + (part,) + thing[path[0] + 1:]


def is_rows_place(path):
    """Whether a path in the tree above leads to the rows of a price leaf."""
    return path != () and path[-1] == 1 and at_place(TREE, path[:-1])[0] == "price"


def chain(many, end, leaf=EMPTY):
    """So many cuts within one another, the next one always in the other side."""
    tree = end
    for at in reversed(range(many)):
        tree = ("cut", 0, at, leaf, tree)
    return tree


def chain_to_the_left(many, end, leaf=EMPTY):
    """So many cuts within one another, the next one always in the one side."""
    tree = end
    for at in range(many):
        tree = ("cut", 0, at + 1, tree, leaf)
    return tree


def even_tree(low, high, leaf=EMPTY):
    """A tree that cuts span 0 until each leaf has one length."""
    if low == high:
        return leaf
    at = (low + high) // 2
    return ("cut", 0, at, even_tree(low, at, leaf), even_tree(at + 1, high, leaf))


class TreesTest(unittest.TestCase):
    def yes(self, thing, net=NET):
        self.assertIs(is_tree(net, thing), True)

    def no(self, thing, net=NET):
        self.assertIs(is_tree(net, thing), False)
        self.assertIsNone(shown_by(net, thing))


class KindsTest(TreesTest):
    def test_ring_leaves(self):
        self.yes(("ring", RING))
        self.yes(("ring", PAIR))
        self.yes(("ring", ((3, 1), (1, 1), (2, 1))))

    def test_a_ring_needn_t_be_dead(self):
        self.yes(("ring", RING))
        self.assertIsNone(shown_by(NET, ("ring", RING)))

    def test_price_leaves(self):
        self.yes(EMPTY)
        self.yes(PRICE)
        for price in (0, 1, -1, GREATEST, -GREATEST):
            self.yes(("price", ((price, RING),)))
        self.yes(("price", ((4, RING), (4, RING))))

    def test_forty_rows_and_forty_one(self):
        self.yes(("price", ((4, RING),) * 40))
        self.no(("price", ((4, RING),) * 41))
        self.yes(("cut", 0, 3, EMPTY, ("price", ((0, RING),) * 40)))
        self.no(("cut", 0, 3, EMPTY, ("price", ((0, RING),) * 41)))

    def test_cuts(self):
        self.yes(("cut", 0, 3, EMPTY, EMPTY))
        self.yes(("cut", 3, 3, ("ring", RING), PRICE))
        self.yes(TREE)

    def test_a_net_without_spans(self):
        self.yes(EMPTY, (60, 3, ()))
        self.no(("ring", ()), (60, 3, ()))
        self.no(("cut", 0, 0, EMPTY, EMPTY), (60, 3, ()))
        self.no(("cut", -1, 0, EMPTY, EMPTY), (60, 3, ()))

    def test_of_all_nets(self):
        for net in PLAIN_NETS + SMALL_NETS:
            self.yes(EMPTY, net)


class CutsTest(TreesTest):
    def test_where_a_span_is_cut(self):
        for at, answer in ((-GREATEST, False), (-1, False), (0, False), (1, False), (2, True), (3, True), (4, True),
                           (5, False), (6, False), (GREATEST, False), (10 ** 10000, False)):
            self.assertIs(is_tree(NET, ("cut", 0, at, EMPTY, EMPTY)), answer, at)

    def test_which_span_is_cut(self):
        for span, answer in ((-5, False), (-4, False), (-1, False), (0, True), (1, True), (2, True), (3, True),
                             (4, False), (GREATEST, False)):
            self.assertIs(is_tree(NET, ("cut", span, 3, EMPTY, EMPTY)), answer, span)

    def test_a_span_of_one_length_can_t_be_cut(self):
        net = (10, 2, ((0, 1, 3, 3, 1),))
        for at in (2, 3, 4):
            self.no(("cut", 0, at, EMPTY, EMPTY), net)

    def test_the_same_span_again_in_one(self):
        for at, answer in ((1, False), (2, True), (3, False), (4, False), (5, False)):
            self.assertIs(is_tree(NET, ("cut", 0, 3, ("cut", 0, at, EMPTY, EMPTY), EMPTY)), answer, at)

    def test_the_same_span_again_in_other(self):
        for at, answer in ((2, False), (3, False), (4, True), (5, False)):
            self.assertIs(is_tree(NET, ("cut", 0, 3, EMPTY, ("cut", 0, at, EMPTY, EMPTY))), answer, at)

    def test_a_side_of_one_length_can_t_be_cut(self):
        self.no(("cut", 0, 2, ("cut", 0, 2, EMPTY, EMPTY), EMPTY))
        self.no(("cut", 0, 4, EMPTY, ("cut", 0, 5, EMPTY, EMPTY)))

    def test_another_span_keeps_its_bounds(self):
        for at, answer in ((2, False), (3, True), (8, True), (9, False)):
            self.assertIs(is_tree(NET, ("cut", 0, 3, ("cut", 2, at, EMPTY, EMPTY), EMPTY)), answer, at)
            self.assertIs(is_tree(NET, ("cut", 0, 3, EMPTY, ("cut", 2, at, EMPTY, EMPTY))), answer, at)

    def test_one_side_s_cut_doesn_t_count_in_the_other(self):
        self.yes(("cut", 0, 3, ("cut", 1, 2, EMPTY, EMPTY), ("cut", 1, 2, EMPTY, EMPTY)))
        self.yes(("cut", 0, 3, ("cut", 1, 1, EMPTY, EMPTY), ("cut", 1, 3, EMPTY, EMPTY)))

    def test_great_numbers(self):
        net = (GREATEST, 2, ((0, 1, 1, GREATEST, 1),))
        self.yes(("cut", 0, 1, EMPTY, EMPTY), net)
        self.yes(("cut", 0, GREATEST - 1, EMPTY, EMPTY), net)
        self.no(("cut", 0, 0, EMPTY, EMPTY), net)
        self.no(("cut", 0, GREATEST, EMPTY, EMPTY), net)

    def test_a_hundred_within_one_another(self):
        for made in (chain, chain_to_the_left):
            self.yes(made(100, EMPTY), LONG)
            self.yes(made(100, ("ring", ((0, 1), (1, 1)))), LONG)
            self.no(made(100, None), LONG)
            self.no(made(100, ("ring", ((0, 1), (0, 1)))), LONG)
            self.no(made(100, EMPTY, ("ring", ())), LONG)
        self.no(chain(100, ("cut", 0, 99, EMPTY, EMPTY)), LONG)
        self.yes(chain(99, ("cut", 0, 99, EMPTY, EMPTY)), LONG)

    def test_ten_thousand_leaves(self):
        net = (10000, 2, ((0, 1, 0, 9999, 1),))
        self.yes(even_tree(0, 9999), net)
        self.no(even_tree(0, 10000), net)


class WrongInputsTest(TreesTest):
    def test_the_tree_that_is_changed_is_one(self):
        self.yes(TREE)
        for path in places_in(TREE):
            self.assertEqual(changed(TREE, path, at_place(TREE, path)), TREE)

    def test_another_thing_at_every_place(self):
        for path in places_in(TREE):
            for thing in NO_NUMBERS + (Odd(), "cuts", (RING,), ("cut",), ("ring",), ("price",)):
                if type(thing) is tuple and thing == () and is_rows_place(path):
                    continue
                self.no(changed(TREE, path, thing))

    def test_a_list_at_every_place_of_a_tuple(self):
        for path in places_in(TREE):
            part = at_place(TREE, path)
            if type(part) is tuple:
                self.no(changed(TREE, path, list(part)))

    def test_a_truth_in_every_number_s_place(self):
        for path in places_in(TREE):
            if type(at_place(TREE, path)) is int:
                self.no(changed(TREE, path, True))
                self.no(changed(TREE, path, False))
        # As a number each of these would be right.
        self.no(("cut", False, 3, EMPTY, EMPTY))
        self.no(("cut", True, 3, EMPTY, EMPTY))
        self.no(("cut", 1, True, EMPTY, EMPTY))
        self.no(("cut", 3, False, EMPTY, EMPTY))
        self.no(("price", ((True, RING),)))
        self.no(("price", ((False, RING),)))

    def test_another_word(self):
        words = ("", "cut", "ring", "price", "Cut", "RING", "prices", "pric", " ring", "ring ", "none", "wait")
        for path in places_in(TREE):
            part = at_place(TREE, path)
            if type(part) is str:
                for word in words:
                    if word != part:
                        self.no(changed(TREE, path, word))

    def test_a_part_too_few_or_too_many(self):
        for path in places_in(TREE):
            part = at_place(TREE, path)
            if type(part) is not tuple:
                continue
            self.no(changed(TREE, path, part + (0,)))
            self.no(changed(TREE, path, part + (None,)))
            if not is_rows_place(path):
                self.no(changed(TREE, path, part[:-1]))
                self.no(changed(TREE, path, part[1:]))
                self.no(changed(TREE, path, part + part[-1:]))

    def test_what_is_no_ring(self):
        for ring in ((), ((0, 1),), ((0, 1), (1, 1)), ((0, 1), (0, -1)), ((0, 1), (1, 1), (2, -1)), ((0, 1), (4, 1)),
                     ((0, 1), (3, 1)), ((0, 1), (3, -1), (0, 1), (3, -1)), ((0, 1), (3, 0)), ((0, 1), (-1, -1)),
                     list(RING), RING + ((0, 1),), (RING,), "ring", 0, None, True):
            self.no(("ring", ring))
            self.no(("price", ((4, ring),)))
            self.no(("price", ((4, RING), (0, ring))))
            self.no(("cut", 0, 3, EMPTY, ("ring", ring)))
            self.no(("cut", 0, 3, ("ring", ring), EMPTY))

    def test_a_price_that_is_none(self):
        for price in NO_NUMBERS:
            self.no(("price", ((price, RING),)))
            self.no(("price", ((4, RING), (price, RING))))

    def test_a_row_s_parts_exchanged_or_alone(self):
        self.no(("price", ((RING, 4),)))
        self.no(("price", (4, RING)))
        self.no(("price", RING))
        self.no(("price", (RING,)))
        self.no(("ring", (RING,)))
        self.no(("ring", ((4, RING),)))

    def test_a_cut_s_parts_exchanged(self):
        self.no(("cut", 3, 0, ("cut", 0, 9, EMPTY, EMPTY), EMPTY))
        self.no(("cut", EMPTY, EMPTY, 0, 3))
        self.no((0, 3, EMPTY, EMPTY, "cut"))

    def test_of_anything(self):
        for thing in NO_NUMBERS + NO_TEXTS + ("cut", "ring", "price", NET, RING, PRICE[1], (TREE,), [TREE]):
            self.no(thing)
        for thing in (Odd(), knotted_list(), deep_tuple()):
            self.no(thing)
            for path in places_in(TREE):
                self.no(changed(TREE, path, thing))

    def test_cuts_deeper_than_calls_go(self):
        for made in (chain, chain_to_the_left):
            self.no(made(5000, None), LONG)
            self.no(made(5000, ("ring", [])), LONG)
            self.no(made(90000, None), LONG)

    def test_one_tuple_in_more_places_than_can_be_gone_through(self):
        net = (10, 2, ((0, 1, 0, 9, 1),) * 40)
        right = EMPTY
        wrong = None
        for span in range(40):
            wrong = ("cut", span, 4, right, wrong)
            right = ("cut", span, 4, right, right)
        self.no(wrong, net)


class LeavesTest(unittest.TestCase):
    def test_of_one_leaf_alone(self):
        for leaf in (EMPTY, PRICE, ("ring", RING)):
            self.assertEqual(leaves_of(NET, leaf), ((first_bounds(NET), leaf),))
        self.assertEqual(leaves_of((60, 3, ()), EMPTY), (((), EMPTY),))

    def test_of_one_cut(self):
        self.assertEqual(leaves_of(NET, ("cut", 2, 5, PRICE, EMPTY)), (
            (((2, 5), (1, 4), (3, 5), (0, 9)), PRICE),
            (((2, 5), (1, 4), (6, 9), (0, 9)), EMPTY)))

    def test_of_a_cut_at_low_and_at_high_less_one(self):
        self.assertEqual([bounds[0] for bounds, leaf in leaves_of(NET, ("cut", 0, 2, EMPTY, EMPTY))], [(2, 2), (3, 5)])
        self.assertEqual([bounds[0] for bounds, leaf in leaves_of(NET, ("cut", 0, 4, EMPTY, EMPTY))], [(2, 4), (5, 5)])

    def test_from_the_left(self):
        self.assertEqual(leaves_of(NET, TREE), (
            (((2, 3), (1, 4), (3, 9), (0, 9)), PRICE),
            (((4, 5), (1, 4), (3, 5), (0, 9)), ("ring", RING)),
            (((4, 5), (1, 4), (6, 9), (0, 9)), EMPTY)))

    def test_cuts_on_both_sides(self):
        tree = ("cut", 0, 3,
                ("cut", 1, 2, ("ring", RING), ("cut", 0, 2, PRICE, EMPTY)),
                ("cut", 3, 0, ("ring", PAIR), ("cut", 3, 1, EMPTY, PRICE)))
        self.assertEqual(leaves_of(NET, tree), (
            (((2, 3), (1, 2), (3, 9), (0, 9)), ("ring", RING)),
            (((2, 2), (3, 4), (3, 9), (0, 9)), PRICE),
            (((3, 3), (3, 4), (3, 9), (0, 9)), EMPTY),
            (((4, 5), (1, 4), (3, 9), (0, 0)), ("ring", PAIR)),
            (((4, 5), (1, 4), (3, 9), (1, 1)), EMPTY),
            (((4, 5), (1, 4), (3, 9), (2, 9)), PRICE)))

    def test_of_a_hundred_cuts(self):
        end = ("ring", ((0, 1), (1, 1)))
        leaves = leaves_of(LONG, chain(100, end))
        self.assertEqual([bounds[0] for bounds, leaf in leaves], [(k, k) for k in range(100)] + [(100, 99999)])
        self.assertEqual([leaf for bounds, leaf in leaves], [EMPTY] * 100 + [end])
        leaves = leaves_of(LONG, chain_to_the_left(100, end))
        self.assertEqual([bounds[0] for bounds, leaf in leaves],
                         [(0, 1)] + [(k, k) for k in range(2, 101)] + [(101, 99999)])
        self.assertEqual([leaf for bounds, leaf in leaves], [end] + [EMPTY] * 100)

    def test_of_ten_thousand_leaves(self):
        net = (10000, 2, ((0, 1, 5, 10004, 1),))
        leaves = leaves_of(net, even_tree(5, 10004))
        self.assertEqual(leaves, tuple((((k, k),), EMPTY) for k in range(5, 10005)))

    def test_they_are_plain(self):
        self.assertTrue(is_plain(leaves_of(NET, TREE)))


if __name__ == "__main__":
    unittest.main()
