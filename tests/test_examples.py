import doctest
import os
import unittest

FOLDER = os.path.join(os.path.dirname(os.path.abspath(__file__)), 'examples')

# How many examples each point has.
EXAMPLES = {4: 8, 5: 11, 6: 13, 7: 15, 8: 9, 9: 14, 10: 7, 11: 11, 12: 9, 13: 10, 14: 10, 15: 12}


class Examples(unittest.TestCase):

    def run_file(self, name):
        failed, tried = doctest.testfile(os.path.join(FOLDER, name), module_relative=False)
        self.assertEqual(failed, 0)
        return tried

    def test_points(self):
        for point, many in EXAMPLES.items():
            with self.subTest(point=point):
                self.assertEqual(self.run_file(f'point{point}.txt'), many)

    def test_readme(self):
        with open(os.path.join(os.path.dirname(os.path.dirname(FOLDER)), 'README.md'), encoding='utf-8') as file:
            text = file.read().replace('```', '')
        test = doctest.DocTestParser().get_doctest(text, {}, 'README', 'README.md', 0)
        result = doctest.DocTestRunner(verbose=False).run(test)
        self.assertEqual((result.failed, result.attempted), (0, 59))
