"""Askedways: ways between houses, found by asking, with numbers by which no ring can stand."""
