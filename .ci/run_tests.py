"""Runs all files test_*.py below a folder; fails if a test fails or if none ran."""

import importlib.util
import os
import sys
import unittest


def test_files(folder):
    """The paths of all test files below a folder."""
    found = []
    for place, _, names in os.walk(folder):
        found += [os.path.join(place, name) for name in names if name.startswith("test_") and name.endswith(".py")]
    return sorted(found)


def load(path, number):
    """The module of a test file, under a name of its own: files of two folders may have one name."""
    place = os.path.abspath(os.path.dirname(path))
    if place not in sys.path:
        sys.path.append(place)
    name = f"file_{number}_{os.path.basename(path)[:-3]}"
    spec = importlib.util.spec_from_file_location(name, path)
    module = importlib.util.module_from_spec(spec)
    sys.modules[name] = module
    spec.loader.exec_module(module)
    return module


def failed_tests(result):
    """The number of tests that failed, each counted once however many of its parts did."""
    tests = [test for test, _ in result.failures + result.errors] + result.unexpectedSuccesses
    return len({getattr(test, "test_case", test).id() for test in tests})


def main(folder):
    """Runs the tests; returns the exit code."""
    sys.path.insert(0, os.getcwd())
    suite = unittest.TestSuite()
    for number, path in enumerate(test_files(folder)):
        tests = unittest.defaultTestLoader.loadTestsFromModule(load(path, number))
        print(f"{path}: {tests.countTestCases()} tests", flush=True)
        suite.addTests(tests)
    result = unittest.TextTestRunner(stream=sys.stdout).run(suite)
    bad = failed_tests(result)
    print(f"{result.testsRun} tests ran with Python {sys.version.split()[0]}")
    print(f"{result.testsRun - bad} passed, {bad} failed")
    return 0 if result.wasSuccessful() and result.testsRun > 0 else 1


sys.exit(main(sys.argv[1]))
