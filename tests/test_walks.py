"""The walks over steps that the promises rest on, of small graphs written out."""

import unittest

from pactboards.walks import far_from, nearing_way, passed

# 0 leads to 1 and 2, both of them to 3; 4 to itself alone; 5 by a long way and a short one to 3.
STEPS = [[(0, 1), (1, 2)], [(0, 3)], [(0, 3), (1, 0)], [], [(0, 4)], [(0, 0), (2, 1)]]


class Far(unittest.TestCase):
    def test_one_goal(self):
        self.assertEqual(far_from(STEPS, [k == 3 for k in range(6)]), [2, 1, 1, 0, None, 2])
        self.assertEqual(far_from(STEPS, [k == 0 for k in range(6)]), [0, None, 1, None, None, 1])

    def test_several_goals_and_none(self):
        self.assertEqual(far_from(STEPS, [k in (1, 4) for k in range(6)]), [1, 0, 2, None, 0, 1])
        self.assertEqual(far_from(STEPS, [False] * 6), [None] * 6)


class Ways(unittest.TestCase):
    def test_the_least_of_the_fewest(self):
        far = far_from(STEPS, [k == 3 for k in range(6)])
        self.assertEqual([nearing_way(STEPS, far, k) for k in (0, 1, 2, 3, 5)], [(0, 0), (0,), (0,), (), (2, 0)])

    def test_what_is_passed(self):
        self.assertEqual(passed(STEPS, 5, (0, 1, 1, 0, 0)), [5, 0, 2, 0, 1, 3])
        self.assertEqual(passed(STEPS, 4, [0, 0]), [4, 4, 4])
        self.assertEqual(passed(STEPS, 3, ()), [3])


if __name__ == "__main__":
    unittest.main()
