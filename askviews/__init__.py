"""Askviews: questions over tables, answered from kept views."""
