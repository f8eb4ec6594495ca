"""Right leaves, their worth, and what trees show of all tables: points 2, 3, 14 and 15."""

import random
import unittest

from hourtable.forests import forest_of, ring_by
from hourtable.rings import beats_of, first_bounds
from hourtable.tables import fits, wait_of, waits_of
from hourtable.trees import is_right, is_tree, leaves_of, shown_by, worth_of
from tests.samples import GREATEST, PLAIN_NETS, SMALL_NETS, is_plain, tables_of

# By the first bounds RING comes to 6 to 18, so to 1 beat; BACK to -18 to -6, so to -1; PAIR to -7 to 5, so to 0;
# LONGER to 4 to 22, so to 1 or 2.
NET = (10, 3, ((0, 1, 2, 5, 3), (1, 2, 1, 4, 1), (2, 0, 3, 9, 2), (0, 1, 0, 9, 0)))
RING = ((0, 1), (1, 1), (2, 1))
BACK = ((2, -1), (1, -1), (0, -1))
PAIR = ((0, 1), (3, -1))
LONGER = ((3, 1), (1, 1), (2, 1))
EMPTY = ("price", ())
FIRST = first_bounds(NET)

# Any two of these spans can be kept together, but not all three: only a cut can show it.
THREE = (6, 2, ((0, 1, 0, 3, 1), (0, 1, 2, 5, 1), (0, 1, 4, 7, 1)))
THREE_TREE = ("cut", 0, 1, ("ring", ((0, 1), (1, -1))), ("ring", ((0, 1), (2, -1))))

# Its one ring is dead by the first bounds.
DEAD = (10, 2, ((0, 1, 2, 5, 3), (1, 0, 3, 4, 1)))


def price_leaf(*rows):
    return ("price", rows)


def turned(ring):
    """The ring gone the other way round."""
    return tuple((span, -way) for span, way in reversed(ring))


def some_rings(net):
    """Rings of a net, each by both ways round."""
    taken = forest_of(net)
    rings = [ring_by(net, span) for span in range(len(net[2])) if span not in taken]
    return rings + [turned(ring) for ring in rings]


def kind_of(net, bounds, ring):
    first, last = beats_of(net, bounds, ring)
    return "dead" if first > last else "sure" if first == last else "open"


def cut_bounds(bounds, span, at):
    low, high = bounds[span]
    return (bounds[:span] + ((low, at),) + bounds[span + 1:], bounds[:span] + ((at + 1, high),) + bounds[span + 1:])


def grown(net, bounds, chance, ends):
    """A tree by chance whose leaves are all right; ends tells how often, of ten times, a branch ends early."""
    rings = some_rings(net)
    dead = [ring for ring in rings if kind_of(net, bounds, ring) == "dead"]
    if dead:
        return ("ring", chance.choice(dead))
    open_spans = [span for span, (low, high) in enumerate(bounds) if low < high]
    if not open_spans or chance.randrange(10) < ends:
        sure = [ring for ring in rings if kind_of(net, bounds, ring) == "sure"]
        many = chance.randrange(4) if sure else 0
        return ("price", tuple((chance.randint(-6, 6), chance.choice(sure)) for _ in range(many)))
    span = chance.choice(open_spans)
    at = chance.randrange(*bounds[span])
    one, other = cut_bounds(bounds, span, at)
    return ("cut", span, at, grown(net, one, chance, ends), grown(net, other, chance, ends))


def whole(net, bounds):
    """The tree whose leaves are dead rings, or have one length for each span."""
    for ring in some_rings(net):
        if kind_of(net, bounds, ring) == "dead":
            return ("ring", ring)
    for span, (low, high) in enumerate(bounds):
        if low < high:
            one, other = cut_bounds(bounds, span, low)
            return ("cut", span, low, whole(net, one), whole(net, other))
    return EMPTY


def least_wait(net):
    """The least that a table that fits waits, all tables gone through, or None."""
    return min([wait_of(net, table) for table in tables_of(net) if fits(net, table)], default=None)


def with_leaf(tree, number, other):
    """The tree with another leaf for the one of this number from the left, and how many are still ahead of it."""
    if tree[0] != "cut":
        return (other if number == 0 else tree, number - 1)
    one, number = with_leaf(tree[3], number, other)
    another, number = with_leaf(tree[4], number, other)
    return (tree[:3] + (one, another), number)


class RightTest(unittest.TestCase):
    def told(self, bounds, leaf, answer):
        self.assertIs(is_right(NET, bounds, leaf), answer)

    def test_a_ring_leaf_is_right_where_its_ring_is_dead(self):
        self.told(((2, 5), (1, 1), (3, 3), (0, 9)), ("ring", RING), True)
        self.told(((2, 5), (1, 1), (3, 3), (0, 9)), ("ring", BACK), True)
        self.told(((2, 2), (1, 4), (3, 3), (0, 9)), ("ring", RING), True)
        self.told(((5, 5), (4, 4), (3, 9), (0, 9)), ("ring", RING), True)
        self.told(((2, 5), (1, 4), (3, 9), (6, 9)), ("ring", PAIR), True)

    def test_a_ring_leaf_isn_t_right_where_its_ring_is_sure(self):
        self.told(FIRST, ("ring", RING), False)
        self.told(((2, 5), (1, 1), (3, 4), (0, 9)), ("ring", RING), False)
        self.told(((2, 5), (1, 1), (3, 4), (0, 9)), ("ring", BACK), False)
        self.told(((2, 5), (1, 4), (3, 9), (5, 9)), ("ring", PAIR), False)

    def test_a_ring_leaf_isn_t_right_where_its_ring_is_open(self):
        bounds = ((2, 5), (1, 4), (3, 9), (0, 9))
        self.assertEqual(beats_of(NET, bounds, LONGER), (1, 2))
        self.told(bounds, ("ring", LONGER), False)

    def test_a_price_leaf_of_no_row_is_right(self):
        self.told(FIRST, EMPTY, True)
        self.told(((2, 5), (1, 1), (3, 3), (0, 9)), EMPTY, True)

    def test_a_price_leaf_with_sure_rings_is_right(self):
        self.told(FIRST, price_leaf((4, RING)), True)
        self.told(FIRST, price_leaf((-4, BACK)), True)
        self.told(FIRST, price_leaf((0, PAIR), (GREATEST, RING), (1, RING), (-7, BACK)), True)
        self.told(FIRST, price_leaf(*[(4, RING)] * 40), True)

    def test_a_price_leaf_with_a_dead_ring_isn_t(self):
        bounds = ((2, 5), (1, 1), (3, 3), (0, 9))
        self.told(bounds, price_leaf((4, PAIR)), True)
        self.told(bounds, price_leaf((4, RING)), False)
        self.told(bounds, price_leaf((0, RING)), False)
        self.told(bounds, price_leaf((4, PAIR), (4, RING)), False)
        self.told(bounds, price_leaf((4, RING), (4, PAIR)), False)

    def test_a_price_leaf_with_an_open_ring_isn_t(self):
        self.told(FIRST, price_leaf((4, LONGER)), False)
        self.told(FIRST, price_leaf((0, LONGER)), False)
        self.told(FIRST, price_leaf((4, RING), (4, LONGER)), False)
        self.told(FIRST, price_leaf((4, LONGER), (4, RING)), False)
        self.told(((2, 5), (1, 4), (3, 9), (0, 6)), price_leaf((4, LONGER)), True)


class WorthTest(unittest.TestCase):
    def told(self, net, bounds, leaf, worth):
        self.assertIs(is_right(net, bounds, leaf), True)
        self.assertEqual(worth_of(net, bounds, leaf), worth)
        self.assertIs(type(worth_of(net, bounds, leaf)), int)

    def test_no_rows(self):
        self.told((60, 3, ()), (), EMPTY, 0)
        self.told(NET, FIRST, EMPTY, 0)
        self.told(NET, ((4, 5), (1, 4), (3, 9), (0, 9)), EMPTY, 3 * 2)
        self.told(NET, ((4, 5), (3, 4), (9, 9), (7, 9)), EMPTY, 3 * 2 + 1 * 2 + 2 * 6)

    def test_a_price_above_nought(self):
        # Own prices: 2, 0, 1, 0.
        self.told(NET, FIRST, price_leaf((1, RING)), 10 + 2 * 2 + 0 + 1 * 3 + 0 - 13)
        # Own prices: 1, -1, 0, 0.
        self.told(NET, FIRST, price_leaf((2, RING)), 20 + 1 * 2 - 1 * 4 + 0 + 0 - 13)
        # Own prices: -1, -3, -2, 0.
        self.told(NET, FIRST, price_leaf((4, RING)), 40 - 1 * 5 - 3 * 4 - 2 * 9 + 0 - 13)

    def test_a_price_below_nought(self):
        # Own prices: 5, 3, 4, 0.
        self.told(NET, FIRST, price_leaf((-2, RING)), -20 + 5 * 2 + 3 * 1 + 4 * 3 + 0 - 13)

    def test_a_price_of_nought_changes_nothing(self):
        self.told(NET, FIRST, price_leaf((0, RING), (0, PAIR)), 0)

    def test_the_other_way_round(self):
        for price in (1, 2, 4, -2):
            worth = worth_of(NET, FIRST, price_leaf((price, RING)))
            self.told(NET, FIRST, price_leaf((-price, BACK)), worth)
        # Own prices: 5, 3, 4, 0, by minus one beat.
        self.told(NET, FIRST, price_leaf((2, BACK)), -20 + 5 * 2 + 3 * 1 + 4 * 3 + 0 - 13)

    def test_both_ways_in_one_ring(self):
        # Own prices: 3 - 1, 1, 2, 0 + 1; no beat.
        self.told(NET, FIRST, price_leaf((1, PAIR)), 2 * 2 + 1 * 1 + 2 * 3 + 1 * 0 - 13)
        # Own prices: 3 + 2, 1, 2, 0 - 2.
        self.told(NET, FIRST, price_leaf((-2, PAIR)), 5 * 2 + 1 * 1 + 2 * 3 - 2 * 9 - 13)

    def test_a_ring_in_two_rows(self):
        for one, other in ((1, 1), (1, 3), (-2, 5), (4, -4)):
            worth = worth_of(NET, FIRST, price_leaf((one + other, RING)))
            self.told(NET, FIRST, price_leaf((one, RING), (other, RING)), worth)
            self.told(NET, FIRST, price_leaf((one, RING), (-other, BACK)), worth)

    def test_several_rings(self):
        # Own prices: 3 - 4 + 7, 1 - 4, 2 - 4, 0 - 7.
        self.told(NET, FIRST, price_leaf((4, RING), (-7, PAIR)), 40 + 6 * 2 - 3 * 4 - 2 * 9 - 7 * 9 - 13)

    def test_by_narrower_bounds(self):
        bounds = ((2, 3), (1, 4), (3, 5), (0, 9))
        self.told(NET, bounds, price_leaf((4, RING)), 40 - 1 * 3 - 3 * 4 - 2 * 5 + 0 - 13)
        bounds = ((4, 4), (2, 3), (3, 4), (2, 9))
        self.told(NET, bounds, price_leaf((1, RING)), 10 + 2 * 4 + 0 + 1 * 3 - 13)

    def test_more_beats_than_one(self):
        net = (10, 2, ((0, 1, 13, 15, 2), (1, 0, 24, 26, 5)))
        ring = ((0, 1), (1, 1))
        self.told(net, first_bounds(net), price_leaf((2, ring)), 2 * 4 * 10 + 0 * 13 + 3 * 24 - 26 - 120)
        self.told(net, first_bounds(net), price_leaf((3, ring)), 3 * 4 * 10 - 1 * 15 + 2 * 24 - 26 - 120)

    def test_great_numbers(self):
        net = (GREATEST, 2, ((0, 1, 0, GREATEST - 1, 10 ** 12), (1, 0, 1, GREATEST, 0)))
        ring = ((0, 1), (1, 1))
        worth = 7 * GREATEST + (10 ** 12 - 7) * 0 - 7 * GREATEST
        self.told(net, first_bounds(net), price_leaf((7, ring)), worth)
        worth = GREATEST ** 2 + (10 ** 12 - GREATEST) * (GREATEST - 1) - GREATEST ** 2
        self.told(net, first_bounds(net), price_leaf((GREATEST, ring)), worth)
        self.told(net, ((GREATEST - 1, GREATEST - 1), (1, 1)), EMPTY, 10 ** 12 * (GREATEST - 1))


class ShownTest(unittest.TestCase):
    def test_what_is_no_tree_shows_nothing(self):
        for thing in (None, 0, (), "price", [EMPTY], ("price", []), ("price",), ("ring", ()), ("cut", 0, 3, EMPTY),
                      ("cut", 0, 5, EMPTY, EMPTY), ("cut", 0, 3, EMPTY, None), ("price", ((True, RING),))):
            self.assertIsNone(shown_by(NET, thing))

    def test_a_leaf_that_isn_t_right_shows_nothing(self):
        self.assertIsNone(shown_by(NET, ("ring", RING)))
        self.assertIsNone(shown_by(NET, price_leaf((4, LONGER))))
        self.assertIsNone(shown_by(NET, ("cut", 0, 3, ("ring", RING), EMPTY)))
        self.assertIsNone(shown_by(NET, ("cut", 0, 3, EMPTY, ("ring", RING))))
        self.assertIsNone(shown_by(NET, ("cut", 0, 3, EMPTY, ("cut", 1, 2, price_leaf((0, LONGER)), EMPTY))))
        self.assertIsNone(shown_by(THREE, THREE_TREE[:2] + (0,) + THREE_TREE[3:]))
        self.assertIsNone(shown_by(THREE, THREE_TREE[:2] + (2,) + THREE_TREE[3:]))

    def test_none(self):
        net = (6, 2, ((0, 1, 1, 2, 2), (0, 1, 4, 5, 1)))
        self.assertEqual(shown_by(net, ("ring", ((0, 1), (1, -1)))), ("none",))
        self.assertEqual(shown_by(net, ("ring", ((1, 1), (0, -1)))), ("none",))
        self.assertEqual(shown_by(THREE, THREE_TREE), ("none",))

    def test_wait_of_one_leaf(self):
        self.assertEqual(shown_by((60, 3, ()), EMPTY), ("wait", 0))
        self.assertEqual(shown_by(NET, EMPTY), ("wait", 0))
        self.assertEqual(shown_by(NET, price_leaf((1, RING))), ("wait", 4))
        self.assertEqual(shown_by(NET, price_leaf((4, RING))), ("wait", -8))

    def test_the_least_of_several_worths(self):
        # The worths of the two sides are 0 and 6 by no rows; by the ring they are others.
        self.assertEqual(shown_by(NET, ("cut", 0, 3, EMPTY, EMPTY)), ("wait", 0))
        ringed = price_leaf((1, RING))
        self.assertEqual(shown_by(NET, ("cut", 0, 3, ringed, EMPTY)), ("wait", 4))
        self.assertEqual(shown_by(NET, ("cut", 0, 3, ringed, ("cut", 0, 4, EMPTY, EMPTY))), ("wait", 4))
        # The worths are -5 and 3, then 4 and 6, then 5 and 6.
        self.assertEqual(shown_by(NET, ("cut", 0, 2, price_leaf((4, RING)), EMPTY)), ("wait", -5))
        self.assertEqual(shown_by(NET, ("cut", 0, 2, ringed, price_leaf((2, RING)))), ("wait", 4))
        self.assertEqual(shown_by(NET, ("cut", 0, 2, price_leaf((2, RING)), ringed)), ("wait", 5))

    def test_beside_ring_leaves(self):
        ring = ((0, 1), (1, 1))
        tree = ("cut", 0, 4, ("ring", ring), EMPTY)
        net = (10, 2, ((0, 1, 2, 7, 3), (1, 0, 3, 5, 1)))
        self.assertEqual(shown_by(net, tree), ("wait", 9))
        tree = ("cut", 0, 4, ("ring", ring), price_leaf((1, ring)))
        self.assertEqual(shown_by(net, tree), ("wait", 10 + 2 * 5 + 0 - 6 - 3))
        self.assertEqual(least_wait(net), 11)
        self.assertIsNone(shown_by(net, ("cut", 0, 5, ("ring", ring), EMPTY)))
        self.assertEqual(shown_by(DEAD, ("ring", ring)), ("none",))
        self.assertEqual(shown_by(DEAD, EMPTY), ("wait", 0))

    def test_of_ten_thousand_leaves(self):
        def even_tree(low, high):
            at = (low + high) // 2
            return EMPTY if low == high else ("cut", 0, at, even_tree(low, at), even_tree(at + 1, high))
        net = (10000, 2, ((0, 1, 0, 9999, 7),))
        self.assertEqual(shown_by(net, even_tree(0, 9999)), ("wait", 0))

    def test_of_a_hundred_cuts(self):
        net = (1000, 2, ((0, 1, 5, 900, 7), (1, 0, 100, 100, 0)))
        ring = ((0, 1), (1, 1))
        tree = EMPTY
        for at in reversed(range(5, 105)):
            tree = ("cut", 0, at, ("ring", ring), tree)
        self.assertEqual(shown_by(net, tree), ("wait", 700))
        tree = tree[:3] + (EMPTY, tree[4])
        self.assertEqual(shown_by(net, tree), ("wait", 0))


class TrueOfEveryTableTest(unittest.TestCase):
    def test_trees_by_chance(self):
        chance = random.Random(15)
        kinds = set()
        for net in SMALL_NETS:
            least = least_wait(net)
            for turn in range(30):
                tree = grown(net, first_bounds(net), chance, turn % 5)
                shown = shown_by(net, tree)
                self.assertIs(is_tree(net, tree), True)
                self.assertTrue(is_plain(shown))
                kinds.add((shown[0], least is None))
                if shown == ("none",):
                    self.assertIsNone(least)
                else:
                    self.assertEqual((shown[0], len(shown)), ("wait", 2))
                    self.assertTrue(least is None or least >= shown[1])
        self.assertEqual(kinds, {("none", True), ("wait", True), ("wait", False)})

    def test_whole_trees_show_just_what_is(self):
        for net in SMALL_NETS:
            least = least_wait(net)
            shown = shown_by(net, whole(net, first_bounds(net)))
            self.assertEqual(shown, ("none",) if least is None else ("wait", least))

    def test_a_table_within_a_leaf_s_bounds_waits_no_less_than_its_worth(self):
        chance = random.Random(14)
        for net in SMALL_NETS:
            fitting = [table for table in tables_of(net) if fits(net, table)]
            for turn in range(4):
                for bounds, leaf in leaves_of(net, grown(net, first_bounds(net), chance, turn)):
                    self.assertIs(is_right(net, bounds, leaf), True)
                    within = [table for table in fitting if all(
                        low <= span[2] + wait <= high
                        for span, wait, (low, high) in zip(net[2], waits_of(net, table), bounds))]
                    if leaf[0] == "ring":
                        self.assertEqual(within, [])
                    for table in within:
                        self.assertGreaterEqual(wait_of(net, table), worth_of(net, bounds, leaf))

    def test_each_leaf_made_wrong_shows_nothing(self):
        chance = random.Random(3)
        checked = 0
        for net in SMALL_NETS:
            tree = grown(net, first_bounds(net), chance, 2)
            for number, (bounds, leaf) in enumerate(leaves_of(net, tree)):
                for ring in some_rings(net):
                    kind = kind_of(net, bounds, ring)
                    for other, right in ((("ring", ring), kind == "dead"), (price_leaf((1, ring)), kind == "sure")):
                        shown = shown_by(net, with_leaf(tree, number, other)[0])
                        self.assertEqual(shown is not None, right)
                        checked += 1
        self.assertGreater(checked, 100)

    def test_a_price_leaf_alone_of_all_nets(self):
        for net in PLAIN_NETS:
            self.assertEqual(shown_by(net, EMPTY), ("wait", 0))


if __name__ == "__main__":
    unittest.main()
