import doctest
import os
import unittest

FOLDER = os.path.join(os.path.dirname(os.path.abspath(__file__)), 'examples')


class Examples(unittest.TestCase):

    def run_file(self, name):
        failed, tried = doctest.testfile(os.path.join(FOLDER, name), module_relative=False)
        self.assertEqual(failed, 0)
        return tried

    def test_point_4(self):
        self.assertEqual(self.run_file('point4.txt'), 8)

    def test_point_5(self):
        self.assertEqual(self.run_file('point5.txt'), 11)

    def test_point_6(self):
        self.assertEqual(self.run_file('point6.txt'), 13)

    def test_point_7(self):
        self.assertEqual(self.run_file('point7.txt'), 15)

    def test_point_8(self):
        self.assertEqual(self.run_file('point8.txt'), 9)

    def test_readme(self):
        with open(os.path.join(os.path.dirname(os.path.dirname(FOLDER)), 'README.md'), encoding='utf-8') as file:
            text = file.read().replace('```', '')
        test = doctest.DocTestParser().get_doctest(text, {}, 'README', 'README.md', 0)
        result = doctest.DocTestRunner(verbose=False).run(test)
        self.assertEqual((result.failed, result.attempted), (0, 34))
