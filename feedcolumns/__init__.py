"""Feedcolumns: columns of a sheet that are filled down for ever, for all inputs."""
