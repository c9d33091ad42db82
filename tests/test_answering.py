"""[12]: asks answered by a plain walk; [21] of what "even" asks."""

import unittest

from asked import Asked
from joinedever.answering import answers_plainly


class Plainly(Asked, unittest.TestCase):
    def way(self, history, asks):
        return answers_plainly(history, asks)


if __name__ == "__main__":
    unittest.main()
