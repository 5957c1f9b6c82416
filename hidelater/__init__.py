"""Hidelater: casks with ranked drops, and rounds of pourings done again for ever."""
