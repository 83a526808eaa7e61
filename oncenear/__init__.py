"""Oncenear: worths without end, told once to the nearest."""
