"""Wardhouse: workers under wardens who begin anew by rules."""
