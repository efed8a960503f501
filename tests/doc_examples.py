"""Runs rows with >>> as the document shows them: what they give, what they raise."""

import keepcompany.errors as errors


def names_of(modules):
    """The public names of modules, by their names."""
    found = {}
    for module in modules:
        for name, value in vars(module).items():
            if not name.startswith("_") and getattr(value, "__module__", None) == module.__name__:
                found[name] = value
    return found


def pairs_of(text):
    """The list of pairs (row with >>>, what stands below it or None)."""
    out = []
    for line in text.strip("\n").split("\n"):
        line = line.strip()
        if not line:
            continue
        if line.startswith(">>> "):
            out.append([line[4:], None])
        else:
            out[-1][1] = line
    return out


def shown_error(error):
    """An error as the document shows it: its name, and what it keeps."""
    kept = [f"{name}={value!r}" for name, value in vars(error).items()]
    return f"{type(error).__name__}({', '.join(kept)})"


def check_examples(case, text, names):
    """Runs text in names; each answer must look just as it is shown."""
    for code, shown in pairs_of(text):
        with case.subTest(code=code):
            if shown is None:
                exec(code, names)
            elif shown.startswith("raises "):
                wanted = getattr(errors, shown[7:].partition("(")[0])
                with case.assertRaises(wanted) as caught:
                    eval(code, names)
                case.assertIs(type(caught.exception), wanted)
                case.assertEqual(shown, "raises " + shown_error(caught.exception))
            else:
                case.assertEqual(repr(eval(code, names)), shown)
