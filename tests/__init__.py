"""The tests of the package; `python3 -m unittest discover -s tests -t .` runs them all."""
