"""Checks examples as the document writes them."""

import asidewoven.errors


def examples_in(text):
    """The pairs (code, what is told of it) of a text; what is told is None where nothing stands."""
    found = []
    for line in text.strip().split("\n"):
        line = line.strip()
        if line.startswith(">>> "):
            found.append((line[4:], None))
        else:
            code, _ = found.pop()
            found.append((code, line))
    return found


def check_examples(test, text):
    """Runs the examples one behind another, with the names that the ones ahead have set."""
    names = {}
    for code, told in examples_in(text):
        with test.subTest(code=code):
            if told is None:
                exec(code, names)
            elif told.startswith("raises "):
                check_raises(test, told[len("raises "):], lambda: eval(code, names))
            else:
                test.assertEqual(repr(eval(code, names)), told)


def check_raises(test, told, call):
    """told is the error as it would be made; what is raised has the same class and the same attributes."""
    wanted = eval(told, dict(vars(asidewoven.errors)))
    with test.assertRaises(asidewoven.errors.AsideError) as caught:
        call()
    test.assertIs(caught.exception.__class__, wanted.__class__)
    test.assertEqual(repr(vars(caught.exception)), repr(vars(wanted)))
