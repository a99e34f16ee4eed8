"""Tests of the program; they lie beside the package, never in it."""
