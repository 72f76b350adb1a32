"""Featureunion: one build of a library for all who use it."""
