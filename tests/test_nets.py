"""What a net is, and a span's width: points 2 and 4."""

import copy
import unittest

from hourtable.nets import is_net, width_of
from tests.samples import GREATEST, NO_NUMBERS, NO_TEXTS, PLAIN_NETS, Odd, deep_tuple, knotted_list


def net_of_span(start=0, goal=1, least=5, most=9, weight=3, beat=60, many=3):
    """A net whose last span has these parts."""
    return (beat, many, ((0, 1, 0, 0, 0), (start, goal, least, most, weight)))


def net_of_many_spans(many):
    return (60, 2, ((0, 1, 5, 9, 3),) * many)


class NetTest(unittest.TestCase):
    def yes(self, thing):
        self.assertIs(is_net(thing), True)

    def no(self, thing):
        self.assertIs(is_net(thing), False)


class OrdinaryTest(NetTest):
    def test_plain_nets(self):
        for net in PLAIN_NETS:
            with self.subTest(net=net):
                self.yes(net)

    def test_the_parts_of_a_span_are_in_their_places(self):
        self.yes(net_of_span())
        self.yes((60, 3, ((2, 0, 100, 159, 10 ** 12),)))
        self.no((60, 3, ((2, 0, 159, 100, 10 ** 12),)))
        self.no((3, 60, ((2, 0, 1, 2, 5),)))

    def test_any_span_may_be_the_wrong_one(self):
        right = (0, 1, 5, 9, 3)
        wrong = (0, 1, 9, 5, 3)
        for place in range(4):
            self.no((60, 2, (right,) * place + (wrong,) + (right,) * (3 - place)))


class EdgesTest(NetTest):
    def test_beat(self):
        self.no((-1, 1, ()))
        self.no((0, 1, ()))
        self.yes((1, 1, ()))
        self.yes((GREATEST, 1, ()))
        self.no((GREATEST + 1, 1, ()))
        self.no((10 ** 10000, 1, ()))

    def test_many(self):
        self.no((60, -1, ()))
        self.no((60, 0, ()))
        self.yes((60, 1, ()))
        self.yes((60, 16, ()))
        self.no((60, 17, ()))

    def test_how_many_spans(self):
        self.yes(net_of_many_spans(0))
        self.yes(net_of_many_spans(39))
        self.yes(net_of_many_spans(40))
        self.no(net_of_many_spans(41))

    def test_a_net_of_one_happening_has_no_span(self):
        self.no((60, 1, ((0, 0, 5, 9, 3),)))
        self.no((60, 1, ((0, 1, 5, 9, 3),)))

    def test_start_and_goal_are_unlike(self):
        for happening in range(3):
            self.no(net_of_span(start=happening, goal=happening))
        self.yes(net_of_span(start=1, goal=2))
        self.yes(net_of_span(start=2, goal=1))

    def test_start(self):
        self.no(net_of_span(start=-1))
        self.yes(net_of_span(start=0))
        self.yes(net_of_span(start=2))
        self.no(net_of_span(start=3))

    def test_goal(self):
        self.no(net_of_span(goal=-1))
        self.yes(net_of_span(start=1, goal=0))
        self.yes(net_of_span(goal=2))
        self.no(net_of_span(goal=3))

    def test_the_last_of_sixteen(self):
        self.yes(net_of_span(many=16, goal=15))
        self.yes(net_of_span(many=16, start=15))
        self.no(net_of_span(many=16, goal=16))
        self.no(net_of_span(many=16, start=16))

    def test_least(self):
        self.no(net_of_span(least=-1))
        self.no(net_of_span(least=-1, most=-1))
        self.yes(net_of_span(least=0))
        self.yes(net_of_span(least=0, most=0))

    def test_most(self):
        self.no(net_of_span(least=5, most=4))
        self.yes(net_of_span(least=5, most=5))
        self.yes(net_of_span(least=5, most=64))
        self.no(net_of_span(least=5, most=65))
        self.no(net_of_span(least=5, most=66))

    def test_most_where_least_is_the_beat_or_more(self):
        self.yes(net_of_span(least=60, most=119))
        self.no(net_of_span(least=60, most=120))
        self.yes(net_of_span(least=600, most=659))
        self.no(net_of_span(least=600, most=660))
        self.no(net_of_span(least=600, most=599))

    def test_by_a_beat_of_one_least_and_most_are_alike(self):
        for least in (0, 1, 7):
            self.no((1, 2, ((0, 1, least, least - 1, 0),)))
            self.yes((1, 2, ((0, 1, least, least, 0),)))
            self.no((1, 2, ((0, 1, least, least + 1, 0),)))

    def test_weight(self):
        self.no(net_of_span(weight=-1))
        self.yes(net_of_span(weight=0))
        self.yes(net_of_span(weight=10 ** 12))
        self.no(net_of_span(weight=10 ** 12 + 1))

    def test_least_and_most_of_sixty_figures(self):
        self.yes(net_of_span(least=GREATEST - 9, most=GREATEST))
        self.no(net_of_span(least=GREATEST - 9, most=GREATEST + 1))
        self.yes(net_of_span(least=GREATEST, most=GREATEST))
        self.no(net_of_span(least=GREATEST, most=GREATEST + 1))
        self.no(net_of_span(least=GREATEST + 1, most=GREATEST + 1))
        self.no(net_of_span(least=GREATEST + 1, most=GREATEST))

    def test_most_by_a_beat_of_sixty_figures(self):
        self.yes(net_of_span(beat=GREATEST, least=0, most=GREATEST - 1))
        self.no(net_of_span(beat=GREATEST, least=0, most=GREATEST))
        self.yes(net_of_span(beat=GREATEST, least=1, most=GREATEST))
        self.no(net_of_span(beat=GREATEST, least=2, most=GREATEST + 1))


class WrongInputsTest(NetTest):
    def test_a_list_in_the_place_of_a_tuple(self):
        self.no([60, 2, ((0, 1, 5, 9, 3),)])
        self.no((60, 2, [(0, 1, 5, 9, 3)]))
        self.no((60, 2, []))
        self.no((60, 2, ([0, 1, 5, 9, 3],)))
        self.no((60, 2, ((0, 1, 5, 9, 3), [0, 1, 5, 9, 3])))

    def test_another_thing_in_the_place_of_the_spans(self):
        for thing in (None, 0, 1, True, False, "", "01593", {}, {(0, 1, 5, 9, 3): 1}, set(), 1.0, Odd()):
            self.no((60, 2, thing))

    def test_another_thing_in_the_place_of_a_span(self):
        for thing in (None, 0, 1, True, "", "01593", {}, {0: 0, 1: 0, 2: 0, 3: 0, 4: 0}, {0, 1, 5, 9, 3}, Odd()):
            self.no((60, 2, (thing,)))
            self.no((60, 2, ((0, 1, 5, 9, 3), thing)))

    def test_a_part_too_few_or_too_many(self):
        net = (60, 2, ((0, 1, 5, 9, 3),))
        for few in range(3):
            self.no(net[:few])
        self.no(net + (0,))
        self.no(net + ((),))
        span = (0, 1, 5, 9, 3)
        for few in range(5):
            self.no((60, 2, (span[:few],)))
        self.no((60, 2, (span + (0,),)))

    def test_what_is_no_number_in_the_place_of_each(self):
        for thing in NO_NUMBERS:
            self.no((thing, 2, ()))
            self.no((60, thing, ()))
            for place in range(5):
                parts = [0, 1, 1, 1, 1]
                parts[place] = thing
                self.no((60, 2, (tuple(parts),)))

    def test_a_truth_is_no_happening_and_no_width(self):
        # As numbers all of these would be right, so a truth must be known as what it is.
        self.no((True, 2, ()))
        self.no((60, True, ()))
        self.no((60, 2, ((False, 1, 0, 0, 0),)))
        self.no((60, 2, ((0, True, 0, 0, 0),)))
        self.no((60, 2, ((0, 1, False, 0, 0),)))
        self.no((60, 2, ((0, 1, 0, False, 0),)))
        self.no((60, 2, ((0, 1, 0, True, 0),)))
        self.no((60, 2, ((0, 1, 0, 0, False),)))
        self.no((60, 2, ((0, 1, 0, 0, True),)))

    def test_of_anything(self):
        others = (0, 1, -5, 60, 10 ** 10000, "beat 60 happenings 2", (1, 2, 3), (0,), ((), (), ()))
        for thing in NO_NUMBERS + NO_TEXTS + others:
            self.no(thing)

    def test_of_knotted_and_deep_things(self):
        self.no(knotted_list())
        self.no((60, 2, (knotted_list(),)))
        self.no(deep_tuple())
        self.no((60, 2, deep_tuple()))

    def test_what_is_asked_about_is_not_changed(self):
        thing = [60, 2, [[0, 1, 5, 9, 3]]]
        before = copy.deepcopy(thing)
        self.no(thing)
        self.assertEqual(thing, before)


class WidthTest(unittest.TestCase):
    def test_by_the_number_of_a_span(self):
        net = (60, 3, ((0, 1, 5, 9, 3), (1, 2, 7, 7, 0), (2, 0, 100, 159, 1)))
        self.assertEqual([width_of(net, span) for span in range(3)], [4, 0, 59])

    def test_from_nought_to_beat_less_one(self):
        for beat in (1, 2, 60, GREATEST):
            for width in {0, beat // 2, beat - 1}:
                self.assertEqual(width_of((beat, 2, ((1, 0, 0, width, 8),)), 0), width)

    def test_of_long_numbers(self):
        net = (60, 2, ((0, 1, GREATEST - 59, GREATEST, 0), (1, 0, GREATEST, GREATEST, 0)))
        self.assertEqual((width_of(net, 0), width_of(net, 1)), (59, 0))

    def test_the_last_of_forty(self):
        net = (60, 2, ((0, 1, 5, 9, 3),) * 39 + ((0, 1, 5, 35, 3),))
        self.assertEqual((width_of(net, 38), width_of(net, 39)), (4, 30))


if __name__ == "__main__":
    unittest.main()
