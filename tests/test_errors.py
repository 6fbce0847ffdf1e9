import unittest

from tablelaws import errors

PLAIN = ("ZeroDivisor InvalidNumber WrongSize WrongKind InvalidPermutation TooLarge MissingMatrix "
         "InvalidPolynomial InvalidName ProgramExists MissingProgram").split()
OF_LINES = "InvalidLine UnknownName KindMismatch NameTaken ProgramTooLarge".split()


class ErrorsTest(unittest.TestCase):
    def test_base_class(self):
        self.assertTrue(issubclass(errors.TableError, ValueError))

    def test_plain_errors(self):
        for name in PLAIN:
            self.assertEqual(getattr(errors, name).__bases__, (errors.TableError,), name)

    def test_errors_of_program_texts(self):
        self.assertEqual(errors.ProgramError.__bases__, (errors.TableError,))
        for name in OF_LINES:
            self.assertEqual(getattr(errors, name).__bases__, (errors.ProgramError,), name)

    def test_line(self):
        for name in ["ProgramError"] + OF_LINES:
            self.assertEqual(getattr(errors, name)(17).line, 17)

    def test_defined_here(self):
        for name in ["TableError", "ProgramError"] + PLAIN + OF_LINES:
            self.assertEqual(getattr(errors, name).__module__, "tablelaws.errors")


if __name__ == "__main__":
    unittest.main()
