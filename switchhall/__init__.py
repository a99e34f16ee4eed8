"""Switchhall: calls put over frames, timetables and nets."""
