"""Holdgates: lanes through which numbers run, gates that hold some of them back."""
