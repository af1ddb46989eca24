"""Points [12] and [13]: odd cycles and components."""

from ladderreach.cycles import components, odd_cycle
from ladderreach.games import Game
from ladderreach.webs import Web
from tests.helpers import (
    Case, draw_even_web, draw_game, draw_web, drawn, full_edges, full_game, greatest_rank, has_cycle, reaches,
    simple_cycles,
)


class OddCycleTest(Case):
    def assert_odd(self, web):
        cycle = odd_cycle(web)
        self.assert_cycle(cycle, web.edges)
        self.assertEqual(greatest_rank(cycle) % 2, 1)

    def test_single_edges(self):
        for rank in range(7):
            for web in (Web(3, 1, [(0, rank, 0)]), Game(3, "A", [(0, rank, 0)])):
                if rank % 2 == 1:
                    self.assertEqual(odd_cycle(web), [(0, rank, 0)])
                else:
                    self.assertIsNone(odd_cycle(web))

    def test_no_cycle(self):
        self.assertIsNone(odd_cycle(Web(1, 1, [])))
        self.assertIsNone(odd_cycle(Web(1, 9, [])))
        self.assertIsNone(odd_cycle(Web(2, 3, [(0, 1, 1), (1, 3, 2), (0, 3, 2)])))

    def test_greatest_rank_decides(self):
        self.assertIsNone(odd_cycle(Web(1, 2, [(0, 1, 1), (1, 2, 0)])))
        self.assert_odd(Web(2, 2, [(0, 3, 1), (1, 2, 0)]))
        self.assert_odd(Web(1, 2, [(0, 1, 1), (1, 1, 0)]))
        self.assertIsNone(odd_cycle(Web(2, 3, [(0, 3, 1), (1, 4, 2), (2, 1, 0)])))

    def test_one_of_several_ways_back(self):
        web = Web(2, 4, [(0, 3, 1), (1, 4, 0), (1, 0, 2), (2, 1, 3), (3, 2, 0), (2, 4, 0)])
        self.assertEqual(sorted(odd_cycle(web)), [(0, 3, 1), (1, 0, 2), (2, 1, 3), (3, 2, 0)])

    def test_loop_beside_a_way(self):
        web = Web(1, 3, [(0, 0, 1), (1, 0, 2), (2, 0, 0), (1, 1, 1)])
        self.assertEqual(odd_cycle(web), [(1, 1, 1)])

    def test_no_source_twice(self):
        # The only way back to node 0 by small ranks passes every other node once.
        edges = [(node, 0, node + 1) for node in range(8)] + [(8, 5, 0)]
        self.assert_odd(Web(3, 9, edges))
        self.assertEqual(len(odd_cycle(Web(3, 9, edges))), 9)

    def test_full_webs(self):
        for height in (1, 2, 3):
            self.assert_odd(Web(height, 9, full_edges(height)))
            self.assert_odd(full_game(height))
            even = [(one, rank - rank % 2, other) for one, rank, other in full_edges(height)]
            self.assertIsNone(odd_cycle(Web(height, 9, sorted(set(even)))))

    def test_new_list_each_time(self):
        web = Web(1, 2, [(0, 1, 1), (1, 1, 0)])
        odd_cycle(web).clear()
        self.assertEqual(len(odd_cycle(web)), 2)

    def test_small_webs_against_all_cycles(self):
        rng = drawn(12)
        for _ in range(400):
            web = draw_web(rng, most_size=4, most_edges=9)
            odd = [cycle for cycle in simple_cycles(web.edges) if greatest_rank(cycle) % 2 == 1]
            if odd:
                self.assert_odd(web)
            else:
                self.assertIsNone(odd_cycle(web))

    def test_drawn_webs(self):
        rng = drawn(13)
        for _ in range(100):
            web = draw_web(rng, most_edges=20)
            if has_cycle(web.size, web.edges, 1):
                self.assert_odd(web)
            else:
                self.assertIsNone(odd_cycle(web))
            self.assertIsNone(odd_cycle(draw_even_web(rng)))


def slow_components(web):
    """The words of the point."""
    table = reaches(web.size, web.edges)
    groups = []
    for node in range(web.size):
        group = [other for other in range(web.size) if table[node][other] and table[other][node]]
        if group not in groups:
            groups.append(group)
    listed = []
    while len(listed) < len(groups):
        done = [node for group in listed for node in group]
        free = [group for group in groups if group not in listed
                and all(edge[2] in group + done for edge in web.edges if edge[0] in group)]
        listed.append(min(free, key=min))
    return listed


class ComponentsTest(Case):
    def test_example(self):
        self.assertEqual(components(Web(1, 3, [(0, 0, 1), (1, 1, 0), (2, 0, 0)])), [[0, 1], [2]])

    def test_no_edges(self):
        self.assertEqual(components(Web(1, 1, [])), [[0]])
        self.assertEqual(components(Web(1, 3, [])), [[0], [1], [2]])
        self.assertEqual(components(Web(1, 1, [(0, 0, 0)])), [[0]])

    def test_targets_come_first(self):
        self.assertEqual(components(Web(1, 3, [(0, 0, 1), (1, 0, 2)])), [[2], [1], [0]])
        self.assertEqual(components(Web(1, 3, [(2, 0, 1), (1, 0, 0)])), [[0], [1], [2]])

    def test_least_free_component_first(self):
        self.assertEqual(components(Web(1, 4, [(0, 0, 3)])), [[1], [2], [3], [0]])
        self.assertEqual(components(Web(1, 4, [(0, 0, 1)])), [[1], [0], [2], [3]])
        self.assertEqual(components(Web(1, 4, [(1, 0, 0), (3, 0, 2)])), [[0], [1], [2], [3]])
        self.assertEqual(components(Web(1, 4, [(0, 0, 2), (1, 0, 3)])), [[2], [0], [3], [1]])

    def test_larger_components(self):
        edges = [(0, 0, 4), (4, 1, 0), (1, 2, 3), (3, 0, 1), (0, 1, 3), (2, 0, 2), (2, 0, 1)]
        self.assertEqual(components(Web(1, 5, edges)), [[1, 3], [0, 4], [2]])
        edges = [(0, 0, 1), (1, 0, 2), (2, 0, 0), (3, 0, 4), (2, 2, 3)]
        self.assertEqual(components(Web(1, 5, edges)), [[4], [3], [0, 1, 2]])

    def test_a_game(self):
        game = Game(1, "AB", [(0, 2, 1), (1, 1, 1)])
        self.assertEqual(components(game), [[1], [0]])
        for height in (1, 2, 3):
            self.assertEqual(components(full_game(height)), slow_components(full_game(height)))

    def test_new_lists_each_time(self):
        web = Web(1, 3, [(0, 0, 1), (1, 1, 0)])
        found = components(web)
        found[0].append(7)
        found.pop()
        self.assertEqual(components(web), [[0, 1], [2]])

    def test_drawn_webs(self):
        rng = drawn(14)
        for _ in range(300):
            web = draw_web(rng, most_edges=rng.choice((4, 8, 12, 63)))
            self.assertEqual(components(web), slow_components(web))
        for _ in range(50):
            game = draw_game(rng, most_out=2)
            self.assertEqual(components(game), slow_components(game))

    def test_kinds(self):
        found = components(Web(1, 2, [(0, 0, 1)]))
        self.assertIs(type(found), list)
        self.assertEqual([type(group) for group in found], [list, list])
