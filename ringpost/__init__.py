"""Ringpost: letters with numbers of a ring, by a post that loses, doubles and keeps back."""
