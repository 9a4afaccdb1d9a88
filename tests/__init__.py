"""The tests of stayfast."""
