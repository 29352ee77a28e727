import doctest
import pathlib
import unittest

README = pathlib.Path(__file__).resolve().parent.parent / "README.md"


class ReadmeTest(unittest.TestCase):
    def test_the_examples_show_what_they_tell(self):
        # The lines around the examples would be read as what they show.
        text = README.read_text(encoding="utf-8").replace("```", "")
        results = doctest.DocTestRunner(verbose=False)
        example = doctest.DocTestParser().get_doctest(text, {}, "README.md", "README.md", 0)
        report = []
        found = results.run(example, out=report.append)
        self.assertGreater(found.attempted, 0)
        self.assertEqual(found.failed, 0, "".join(report))


if __name__ == "__main__":
    unittest.main()
