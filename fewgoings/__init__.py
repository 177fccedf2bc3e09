"""Fewgoings: how many left-to-right passes a program needs."""
