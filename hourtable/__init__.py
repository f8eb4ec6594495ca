"""Hourtable: timetables that come again each beat."""
