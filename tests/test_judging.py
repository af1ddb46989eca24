"""Points [53], [54] and [56]: whether talks are kept."""

from ladderreach.errors import ShapeMismatch
from ladderreach.judging import judge_controller, judge_world, meet
from ladderreach.machines import Controller, World
from ladderreach.monitors import Monitor
from tests.drawnmachines import (
    controller_fails, controller_talk, draw_controller_moves, draw_monitors, draw_world_moves, monitor_shapes,
    world_fails, world_talk,
)
from tests.helpers import Case, drawn


def plain_monitor(height=1, states=1, letters=1, answers=1):
    return Monitor(height, [[[(0, 0)] * answers for _ in range(letters)] for _ in range(states)])


class JudgeCase(Case):
    def assert_words(self, found, talk, signs, remainder):
        """A stem and a cycle of such signs; the cycle leads back and its greatest rank leaves the remainder."""
        self.assertIs(type(found), tuple)
        stem, cycle = found
        self.assertEqual((type(stem), type(cycle)), (list, list))
        self.assertTrue(all(sign in signs for sign in stem + cycle))
        self.assertGreater(len(cycle), 0)
        _, place = talk(stem, (0, 0))
        ranks, end = talk(cycle, place)
        self.assertEqual(end, place)
        self.assertEqual(max(ranks) % 2, remainder)


class JudgeControllerTest(JudgeCase):
    def test_small(self):
        # The first answer keeps the talk, the second one does not.
        monitor = Monitor(1, [[[(2, 0), (1, 0)]]])
        self.assertIsNone(judge_controller(monitor, Controller([[(0, 0)]])))
        self.assertEqual(judge_controller(monitor, Controller([[(1, 0)]])), ([], [0]))
        self.assertIsNone(judge_controller(monitor, Controller([[(0, 1)], [(1, 0)]])))
        self.assertEqual(judge_controller(monitor, Controller([[(0, 1)], [(1, 1)]])), ([0], [0]))
        monitor = Monitor(1, [[[(0, 0)], [(1, 0)]]])
        self.assertEqual(judge_controller(monitor, Controller([[(0, 0), (0, 0)]])), ([], [1]))
        self.assertEqual(judge_controller(monitor, Controller([[(0, 0), (0, 1)], [(0, 1), (0, 1)]])), ([1], [1]))

    def test_against_a_slow_search(self):
        rng = drawn(53)
        seen = {True: 0, False: 0}
        stems = 0
        for height, moves in draw_monitors(rng, 8):
            controller_moves = draw_controller_moves(rng, len(moves[0]), len(moves[0][0]))
            found = judge_controller(Monitor(height, moves), Controller(controller_moves))
            self.assertEqual(found is not None, controller_fails(moves, controller_moves))
            seen[found is None] += 1
            if found is not None:
                self.assert_words(
                    found, lambda letters, place: controller_talk(moves, controller_moves, letters, place),
                    range(len(moves[0])), 1)
                stems += len(found[0]) > 0
        self.assertGreater(min(seen.values()), 100)
        self.assertGreater(stems, 50)

    def test_only_what_is_reached_counts(self):
        # State 1 and memory 1 are bad, but no talk comes there.
        monitor = Monitor(1, [[[(0, 0), (1, 0)]], [[(1, 1), (1, 1)]]])
        self.assertIsNone(judge_controller(monitor, Controller([[(0, 0)], [(1, 1)]])))
        self.assertEqual(judge_controller(monitor, Controller([[(0, 1)], [(1, 1)]])), ([0], [0]))

    def test_the_numbers_of_letters(self):
        for states, letters, answers in monitor_shapes():
            monitor = plain_monitor(2, states, letters, answers)
            self.assertIsNone(judge_controller(monitor, Controller([[(0, 0)] * letters])))
            self.assert_raises(ShapeMismatch, judge_controller, monitor, Controller([[(0, 0)] * (3 - letters)]))

    def test_the_answers(self):
        for answers in (1, 2):
            monitor = plain_monitor(1, 1, 2, answers)
            for memories in (1, 2, 4):
                for memory in range(memories):
                    for letter in (0, 1):
                        # No memory but 0 is ever reached.
                        moves = [[(answers - 1, 0), (0, 0)] for _ in range(memories)]
                        self.assertIsNone(judge_controller(monitor, Controller(moves)))
                        moves[memory][letter] = (answers, 0)
                        self.assert_raises(ShapeMismatch, judge_controller, monitor, Controller(moves))

    def test_the_present_memory(self):
        monitor = Monitor(1, [[[(2, 0), (1, 0)]]])
        controller = Controller([[(0, 0)], [(1, 1)]])
        other = Controller([[(1, 1)], [(0, 1)]])
        other(0)
        self.assertIsNone(judge_controller(monitor, controller))
        self.assertIsNone(judge_controller(monitor, other))
        self.assertEqual((controller.memory, other.memory), (0, 1))
        walker = Controller([[(0, 1)], [(1, 1)]])
        for memory in (0, 1):
            self.assertEqual(walker.memory, memory)
            self.assertEqual(judge_controller(monitor, walker), ([0], [0]))
            self.assertEqual(walker.memory, memory)
            walker(0)

    def test_the_lists_are_new(self):
        monitor, controller = Monitor(1, [[[(1, 0)]]]), Controller([[(0, 0)]])
        stem, cycle = judge_controller(monitor, controller)
        stem.append(1)
        cycle.clear()
        self.assertEqual(judge_controller(monitor, controller), ([], [0]))

    def test_limits(self):
        rng = drawn(530)
        for height, moves in draw_monitors(rng, 1):
            if len(moves) == 3:
                controller_moves = draw_controller_moves(rng, len(moves[0]), len(moves[0][0]), 4)
                found = judge_controller(Monitor(height, moves), Controller(controller_moves))
                self.assertEqual(found is not None, controller_fails(moves, controller_moves))


class JudgeWorldTest(JudgeCase):
    def test_small(self):
        monitor = Monitor(1, [[[(1, 0)], [(2, 0)]]])
        self.assertIsNone(judge_world(monitor, World([(0, [0])])))
        self.assertEqual(judge_world(monitor, World([(1, [0])])), ([], [0]))
        self.assertEqual(judge_world(monitor, World([(0, [1]), (1, [0])])), ([], [0, 0]))
        self.assertEqual(judge_world(monitor, World([(0, [1]), (1, [1])])), ([0], [0]))
        monitor = Monitor(1, [[[(1, 0), (0, 0)]]])
        self.assertEqual(judge_world(monitor, World([(0, [0, 0])])), ([], [1]))
        self.assertEqual(judge_world(monitor, World([(0, [0, 1]), (0, [0, 2]), (0, [0, 0])])), ([], [1, 1, 1]))

    def test_against_a_slow_search(self):
        rng = drawn(54)
        seen = {True: 0, False: 0}
        stems = 0
        for height, moves in draw_monitors(rng, 8):
            world_moves = draw_world_moves(rng, len(moves[0]), len(moves[0][0]))
            found = judge_world(Monitor(height, moves), World(world_moves))
            self.assertEqual(found is not None, world_fails(moves, world_moves))
            seen[found is None] += 1
            if found is not None:
                self.assert_words(
                    found, lambda answers, place: world_talk(moves, world_moves, answers, place),
                    range(len(moves[0][0])), 0)
                stems += len(found[0]) > 0
        self.assertGreater(min(seen.values()), 50)
        self.assertGreater(stems, 50)

    def test_only_what_is_reached_counts(self):
        monitor = Monitor(1, [[[(1, 0)], [(2, 0)]], [[(0, 1)], [(0, 1)]]])
        self.assertIsNone(judge_world(monitor, World([(0, [0]), (1, [1])])))
        self.assertEqual(judge_world(monitor, World([(0, [1]), (1, [1])])), ([0], [0]))

    def test_the_numbers_of_answers(self):
        for states, letters, answers in monitor_shapes():
            monitor = plain_monitor(2, states, letters, answers)
            for other in (1, 2, 3):
                world = World([(0, [0] * other)])
                if other == answers:
                    self.assertEqual(judge_world(monitor, world)[0], [])
                else:
                    self.assert_raises(ShapeMismatch, judge_world, monitor, world)

    def test_the_letters(self):
        for answers in (1, 2, 3):
            one, two = plain_monitor(1, 1, 1, answers), plain_monitor(1, 1, 2, answers)
            for memories in (1, 2, 4):
                for memory in range(memories):
                    # No memory but 0 is ever reached.
                    moves = [(0, [0] * answers) for _ in range(memories)]
                    self.assertIsNotNone(judge_world(one, World(moves)))
                    moves[memory] = (1, [0] * answers)
                    self.assertIsNotNone(judge_world(two, World(moves)))
                    self.assert_raises(ShapeMismatch, judge_world, one, World(moves))

    def test_the_lists_are_new(self):
        monitor, world = Monitor(1, [[[(2, 0)]]]), World([(0, [0])])
        stem, cycle = judge_world(monitor, world)
        stem.append(1)
        cycle.clear()
        self.assertEqual(judge_world(monitor, world), ([], [0]))

    def test_limits(self):
        rng = drawn(540)
        for height, moves in draw_monitors(rng, 1):
            if len(moves) == 3:
                world_moves = draw_world_moves(rng, len(moves[0]), len(moves[0][0]), 4)
                found = judge_world(Monitor(height, moves), World(world_moves))
                self.assertEqual(found is not None, world_fails(moves, world_moves))


def slow_meet(monitor_moves, controller_moves, world_moves):
    """The talk pair by pair, with the moments at which it stands written down."""
    moments, pairs = [(0, 0, 0)], []
    while True:
        state, memory, world_memory = moments[-1]
        letter = world_moves[world_memory][0]
        answer = controller_moves[memory][letter][0]
        pairs.append((letter, answer, monitor_moves[state][letter][answer][0]))
        moment = (
            monitor_moves[state][letter][answer][1], controller_moves[memory][letter][1],
            world_moves[world_memory][1][answer])
        if moment in moments:
            at = moments.index(moment)
            greatest = max(rank for _, _, rank in pairs[at:])
            return "B" if greatest % 2 else "A", pairs[:at], pairs[at:]
        moments.append(moment)


class MeetTest(Case):
    def test_small(self):
        monitor = Monitor(1, [[[(2, 0), (1, 0)], [(0, 0), (1, 0)]]])
        controller = Controller([[(0, 0), (1, 0)]])
        self.assertEqual(meet(monitor, controller, World([(0, [0, 0])])), ("A", [], [(0, 0, 2)]))
        self.assertEqual(meet(monitor, controller, World([(1, [0, 0])])), ("B", [], [(1, 1, 1)]))
        self.assertEqual(
            meet(monitor, controller, World([(0, [1, 0]), (1, [0, 1])])), ("B", [(0, 0, 2)], [(1, 1, 1)]))
        self.assertEqual(
            meet(monitor, controller, World([(0, [1, 1]), (1, [0, 0])])), ("A", [], [(0, 0, 2), (1, 1, 1)]))
        # Only state, memory and memory together make a moment.
        monitor = Monitor(1, [[[(0, 1)]], [[(1, 0)]]])
        self.assertEqual(
            meet(monitor, Controller([[(0, 1)], [(0, 2)], [(0, 0)]]), World([(0, [0])])),
            ("B", [], [(0, 0, 0), (0, 0, 1), (0, 0, 0), (0, 0, 1), (0, 0, 0), (0, 0, 1)]))

    def test_against_a_slow_run(self):
        rng = drawn(56)
        seen = {"A": 0, "B": 0}
        stems = 0
        longest = 0
        for height, moves in draw_monitors(rng, 8):
            letters, answers = len(moves[0]), len(moves[0][0])
            controller_moves = draw_controller_moves(rng, letters, answers)
            world_moves = draw_world_moves(rng, letters, answers)
            controller = Controller(controller_moves)
            found = meet(Monitor(height, moves), controller, World(world_moves))
            self.assertEqual(found, slow_meet(moves, controller_moves, world_moves))
            self.assertEqual([type(part) for part in found], [str, list, list])
            self.assertEqual({type(pair) for pair in found[1] + found[2]}, {tuple})
            self.assertEqual(controller.memory, 0)
            seen[found[0]] += 1
            stems += len(found[1]) > 0
            longest = max(longest, len(found[2]))
        self.assertGreater(min(min(seen.values()), stems), 100)
        self.assertGreater(longest, 6)

    def test_what_the_judges_say_holds_of_the_talk(self):
        rng = drawn(560)
        for height, moves in draw_monitors(rng, 4):
            letters, answers = len(moves[0]), len(moves[0][0])
            monitor = Monitor(height, moves)
            controller = Controller(draw_controller_moves(rng, letters, answers))
            world = World(draw_world_moves(rng, letters, answers))
            winner, _, _ = meet(monitor, controller, world)
            if judge_controller(monitor, controller) is None:
                self.assertEqual(winner, "A")
            if judge_world(monitor, world) is None:
                self.assertEqual(winner, "B")

    def test_the_present_memory(self):
        monitor = Monitor(1, [[[(2, 0), (1, 0)]]])
        controller = Controller([[(0, 0)], [(1, 1)]])
        walker = Controller([[(0, 1)], [(1, 1)]])
        walker(0)
        world = World([(0, [0, 0])])
        self.assertEqual(meet(monitor, controller, world), ("A", [], [(0, 0, 2)]))
        self.assertEqual(meet(monitor, walker, world), ("B", [(0, 0, 2)], [(0, 1, 1)]))
        self.assertEqual((controller.memory, walker.memory), (0, 1))

    def test_shape_mismatch(self):
        monitor = plain_monitor(1, 1, 1, 2)
        controller, world = Controller([[(1, 0)]]), World([(0, [0, 0])])
        self.assertEqual(meet(monitor, controller, world), ("A", [], [(0, 1, 0)]))
        # Each machine alone, also where no talk comes to what is wrong.
        for wrong in ([[(0, 0), (0, 0)]], [[(2, 0)]], [[(0, 0)], [(2, 0)]]):
            self.assert_raises(ShapeMismatch, meet, monitor, Controller(wrong), world)
        for wrong in ([(0, [0])], [(0, [0] * 3)], [(1, [0, 0])], [(0, [0, 0]), (1, [0, 0])]):
            self.assert_raises(ShapeMismatch, meet, monitor, controller, World(wrong))
        self.assert_raises(ShapeMismatch, meet, monitor, Controller([[(2, 0)]]), World([(1, [0])]))

    def test_lists_are_new(self):
        monitor, controller, world = plain_monitor(), Controller([[(0, 0)]]), World([(0, [1]), (0, [1])])
        _, stem, cycle = meet(monitor, controller, world)
        stem.clear()
        cycle.clear()
        self.assertEqual(meet(monitor, controller, world), ("A", [(0, 0, 0)], [(0, 0, 0)]))

    def test_limits(self):
        # 3 states, 4 memories and 3 memories: the talk comes round after 12 pairs.
        monitor = Monitor(3, [[[(state, (state + 1) % 3)] * 3] * 2 for state in range(3)])
        controller = Controller([[(memory % 3, (memory + 1) % 4)] * 2 for memory in range(4)])
        world = World([(memory % 2, [(memory + 1) % 3] * 3) for memory in range(3)])
        winner, stem, cycle = meet(monitor, controller, world)
        self.assertEqual((winner, stem, len(cycle)), ("A", [], 12))
