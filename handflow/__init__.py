"""Handflow: programs as nets that hand things on."""
