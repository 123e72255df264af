"""The tests of alikeruns. Run them with: python3 -m unittest discover -s tests -t ."""
