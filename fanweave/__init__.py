"""Fanweave: functions worked out with nothing done twice."""
