"""Knell: bells that ring at even gaps."""
