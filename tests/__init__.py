"""Tests of the package roomslaid."""
