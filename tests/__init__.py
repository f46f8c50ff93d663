"""Tests of ringpost."""
